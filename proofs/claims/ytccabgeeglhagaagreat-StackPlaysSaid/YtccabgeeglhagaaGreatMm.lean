/- Texts that the statements of this seat lean on, put together: StkLawA, StkSame, StkPlN. -/
import Derived.Test.YtccabgeeglhagaaGreatMc
import Derived.Test.YtccabgeeglhagaaGreatMg
import Derived.Test.YtccabgeeglhagaaGreatMi
import Derived.Test.YtccabgeeglhagaaGreatMj
import Derived.Test.YtccabgeeglhagaaGreatMk
import Derived.Test.YtccabgeeglhagaaGreatMl
import Derived.Deep.LoopGhost
import Derived.Deep.RegionHeld3
import Derived.Deep.DeepCutAuto
import Derived.Deep.QuietTactic
import Derived.BigQuiet
/- shown of layer 15's laws. Printed by wip/gen/stk2.py. -/
namespace Go.Proofs.YtccabgeeglhagaaGreat.Stk
open Go Go.RowKit Lw Grd Lin Con Shp Sk Exa Lev
set_option linter.unusedVariables false
set_option linter.unusedSimpArgs false
def lS : Cfg := ⟨2, 2, 2, 1, 0⟩
theorem lS_ok : lS.Ok := by constructor <;> decide
theorem lS_r : IsRight lS := by decide
theorem lS_k : keys lS 0 = 4 := by decide
theorem lS_in {us : Ups} (h : ∀ u ∈ us, (0 ≤ u.1 ∧ u.1 < 4) ∧ (-1099511627776 ≤ u.2 ∧ u.2 ≤ 1099511627776)) : UpsIn lS 0 us :=
  ⟨fun u hu => ⟨(h u hu).1.1, by rw [lS_k]; exact (h u hu).1.2, (h u hu).2⟩, fun hm => by simp [lS] at hm⟩
theorem sS_1 : sucode lS (stsOf lS []) 3 5 = 0 ∧ sures lS (stsOf lS []) 3 5 = stsOf lS [(3, 5)] :=
  stsOf_step lS_r (lS_in (fun u hu => by simp at hu)) (by decide) (u := (3, 5)) (lS_in (fun u hu => by rw [List.mem_singleton.1 hu]; decide))
theorem sS_2 : sucode lS (stsOf lS [(3, 5)]) 0 (-2) = 0 ∧ sures lS (stsOf lS [(3, 5)]) 0 (-2) = stsOf lS [(3, 5), (0, -2)] :=
  stsOf_step lS_r (lS_in (fun u hu => by rw [List.mem_singleton.1 hu]; decide)) (by decide) (u := (0, -2)) (lS_in (fun u hu => by rw [List.mem_singleton.1 hu]; decide))
theorem sS_3 (sts : List LS) : sucode lS sts 4 1 = 2 ∧ sures lS sts 4 1 = sts := by
  have e : sucode lS sts 4 1 = 2 := if_pos (by rw [lS_k]; decide)
  exact ⟨e, if_neg (by rw [e]; decide)⟩
theorem sz_flat2 {m n : Nat} {L : List (List Int)} (h : Sz m n L) : L.flatten.length = m * n := by
  have h2 : ∀ {L : List (List Int)}, (∀ r ∈ L, r.length = n) → L.flatten.length = L.length * n := by
    intro L
    induction L with
    | nil => intro _; simp
    | cons r L ih =>
      intro hr
      rw [List.flatten_cons, List.length_append, ih (fun q hq => hr q (by simp [hq])), hr r (by simp), List.length_cons, Nat.succ_mul]
      omega
  rw [h2 h.2, h.1]
theorem sS_c0 : (lvFl (stsOf lS [(3, 5), (0, -2)]) 0).length = 4 := by
  have h1 : UpsIn lS 0 [(3, 5), (0, -2)] := lS_in (fun u hu => by
    rcases List.mem_cons.1 hu with rfl | hu
    · decide
    · rw [List.mem_singleton.1 hu]; decide)
  have h2 := upN_in lS_r h1 (n := 0) (by decide)
  have h3 := sz_flat2 (cells_sz h2)
  have e : lvFl (stsOf lS [(3, 5), (0, -2)]) 0 = (cells lS 0 (upN [(3, 5), (0, -2)] 0)).flatten := rfl
  rw [e]
  exact h3
theorem sS_c1 : lvFl (stsOf lS [(3, 5), (0, -2)]) 1 = [-2, 5] := by decide
theorem sS_p1 : spV lS (stsOf lS [(3, 5), (0, -2)]) 1 1 = 5 ∧ spC lS (stsOf lS [(3, 5), (0, -2)]) 1 1 = 0 := by decide
theorem sS_p3 : spC lS (stsOf lS [(3, 5), (0, -2)]) 3 0 = 2 := by decide
theorem sS_t : spV lS (stsOf lS [(3, 5), (0, -2)]) lS.bt 0 = 3 := by decide
theorem sS_a : (stsOf lS [(3, 5), (0, -2)])[1]? = some (.A [-2, 5]) := by
  have h := stsOf_get (c := lS) (us := [(3, 5), (0, -2)]) (n := 1) (by decide)
  have e : stOf lS [(3, 5), (0, -2)] 1 = .A (sums (keys lS 1).toNat (upN [(3, 5), (0, -2)] 1)) := if_pos (by decide)
  have e2 : sums (keys lS 1).toNat (upN [(3, 5), (0, -2)] 1) = [-2, 5] := by decide
  rw [h, e, e2]
theorem sn_1 (w : World) : Calls Tryz.prog 6 #[.agg #[.int .i64 2, .int .i64 2, .int .i64 2, .int .i64 1, .int .u64 0]] w fun e w' => ∃ (p : Addr) (F : Nat → Prop), e = .returned (.tuple #[.pointer (some p), .int .i64 0]) ∧ ST w' p F lS (stsOf lS []) ∧ (∀ k, F k → w.heap.size ≤ k) ∧ Below w.heap.size w w' := cs_new lS w lS_ok lS_r
theorem sn_0 (w : World) : Calls Tryz.prog 6 #[.agg #[.int .i64 0, .int .i64 0, .int .i64 0, .int .i64 0, .int .u64 0]] w fun e w' => e = .returned (.tuple #[.pointer none, .int .i64 1]) ∧ Below w.heap.size w w' := cs_none ⟨0, 0, 0, 0, 0⟩ w (by constructor <;> decide) (by decide)
theorem su_any (p : Addr) (F : Nat → Prop) (sts sts2 : List LS) (k d x : Int) (w : World) (h : ST w p F lS sts) (k0 : 0 ≤ k) (k1 : k ≤ 18446744073709551615) (d0 : -9223372036854775808 ≤ d) (d1 : d ≤ 9223372036854775807) (hu : sucode lS sts k d = x ∧ sures lS sts k d = sts2) :
    Calls Tryz.prog 16 #[.pointer (some p), .int .u64 k, .int .i64 d] w fun e w' => e = .returned (.int .i64 x) ∧ ∃ F', ST w' p F' lS sts2 ∧ Kept F w w' ∧ (∀ q, F' q → F q ∨ w.heap.size ≤ q) := by
  have h1 := cs_upd p F lS sts k d w h k0 k1 d0 d1
  rw [hu.1, hu.2] at h1
  exact h1
theorem sp_1 (p : Addr) (F : Nat → Prop) (w : World) (h : ST w p F lS (stsOf lS [(3, 5), (0, -2)])) : Calls Tryz.prog 8 #[.pointer (some p), .agg #[.int .i64 1, .int .u64 1]] w fun e w' => e = .returned (.tuple #[.int .i64 5, .int .i64 0]) ∧ Below w.heap.size w w' := by
  have h1 := cs_point p F lS _ 1 1 w h (by decide) (by decide) (by decide) (by decide)
  rw [sS_p1.1, sS_p1.2] at h1
  exact h1
theorem sp_3 (p : Addr) (F : Nat → Prop) (w : World) (h : ST w p F lS (stsOf lS [(3, 5), (0, -2)])) : Calls Tryz.prog 8 #[.pointer (some p), .agg #[.int .i64 3, .int .u64 0]] w fun e w' => ∃ z, e = .returned (.tuple #[.int .i64 z, .int .i64 2]) ∧ Below w.heap.size w w' := by
  have h1 := cs_point p F lS _ 3 0 w h (by decide) (by decide) (by decide) (by decide)
  rw [sS_p3] at h1
  exact h1.mono (fun e w' h => ⟨_, h⟩)
theorem st_3 (p : Addr) (F : Nat → Prop) (w : World) (h : ST w p F lS (stsOf lS [(3, 5), (0, -2)])) : Calls Tryz.prog 18 #[.pointer (some p)] w fun e w' => e = .returned (.int .i64 3) ∧ Below w.heap.size w w' := by
  have h1 := cs_total p F lS _ w h
  rw [sS_t] at h1
  exact h1
theorem sa_1 (p : Addr) (F : Nat → Prop) (w : World) (h : ST w p F lS (stsOf lS [(3, 5), (0, -2)])) : Calls Tryz.prog 22 #[.pointer (some p), .int .i64 1] w fun e w' => ∃ q, e = .returned (.tuple #[.iface 99 (.pointer (some q)), .bool true]) ∧ Below w.heap.size w w' := by
  refine (cs_at p F lS _ 1 _ w h sS_a).mono ?_
  rintro e w' ⟨v, Q, rfl, ⟨-, q, rfl, -⟩, -, hb⟩
  exact ⟨q, rfl, hb⟩
theorem sc_0 (p : Addr) (F : Nat → Prop) (w : World) (h : ST w p F lS (stsOf lS [(3, 5), (0, -2)])) : Calls Tryz.prog 13 #[.pointer (some p), .int .i64 0] w fun e w' => ∃ (A : Option Addr) (cap : Nat), e = .returned (.slice A 4 cap) ∧ Below w.heap.size w w' := by
  refine (cs_cells p F lS _ 0 w h (by decide) (by decide)).mono ?_
  rintro e w' ⟨A, m, cap, rfl, -, hm, -, hb⟩
  rw [sS_c0] at hm
  subst hm
  exact ⟨A, cap, rfl, hb⟩
theorem sc_1 (p : Addr) (F : Nat → Prop) (w : World) (h : ST w p F lS (stsOf lS [(3, 5), (0, -2)])) : Calls Tryz.prog 13 #[.pointer (some p), .int .i64 1] w fun e w' => ∃ (A : Option Addr) (cap : Nat), e = .returned (.slice A 2 cap) ∧ Rd .i64 w' A [-2, 5] ∧ Below w.heap.size w w' := by
  refine (cs_cells p F lS _ 1 w h (by decide) (by decide)).mono ?_
  rintro e w' ⟨A, m, cap, rfl, hr, hm, -, hb⟩
  rw [sS_c1] at hr hm
  subst hm
  exact ⟨A, cap, rfl, hr, hb⟩
theorem lit_m2 (X : World) : Rd .i64 (X.alloc (.cells #[.int .i64 (-2), .int .i64 5] 2)) (some ⟨X.heap.size, 0, none⟩) [-2, 5] := by
  have hb := heap_alloc_new X (.cells #[.int .i64 (-2), .int .i64 5] 2)
  exact lit2 (box_cell hb rfl) (box_cell hb rfl)
set_option maxRecDepth 100000 in
set_option maxHeartbeats 8000000 in
theorem shown_any (w : World) : Calls Tryz.prog 4 #[] w fun e w' => e = .returned (.bool true) ∧ Below w.heap.size w w' := by
  have HV0 : Hid (Have w w []) := Lib.hid (Below.refl _ _)
  have l2 : ([-2, 5] : List Int).length = 2 := rfl
  have eq2 : decide (([-2, 5] : List Int) = [-2, 5]) = true := decide_eq_true rfl
  go_enter Tryz.func4, Tryz.ntmps4
  go_wp2_with (first
    | (go_at_call 23; (with_reducible refine (rsame_any _ _ _ _ _ _ [-2, 5] [-2, 5] _ (RD.out.up (by repeat' (first | (with_reducible exact Below.refl _ _) | (with_reducible assumption) | (with_reducible refine below_over ?_ _ _) | (with_reducible refine Lw.below_alloc ?_ _) | (with_reducible refine Below.drew ?_) | (with_reducible refine below_drewN ?_ _) | (with_reducible refine Below.setCell ?_ ?_ _) | go_size))) (lit_m2 _) l2 l2 (by omega) (by omega)).mono ?_); rintro e wd ⟨rfl, hb⟩; have HVd := Lib.hid ((HVc.out.up (by repeat' (first | (with_reducible exact Below.refl _ _) | (with_reducible assumption) | (with_reducible refine below_over ?_ _ _) | (with_reducible refine Lw.below_alloc ?_ _) | (with_reducible refine Below.drew ?_) | (with_reducible refine below_drewN ?_ _) | (with_reducible refine Below.setCell ?_ ?_ _) | go_size))).up hb); clear hb)
    | (go_at_call 13; (with_reducible refine (sc_1 p F3 _ (stI HVb.out.i0)).mono ?_); rintro e wc ⟨A2, cap2, rfl, hr, hb⟩; have RD := Lib.hid hr; have HVc := Lib.hid (HVb.out.up hb); clear hb hr)
    | (go_at_call 13; (with_reducible refine (sc_0 p F3 _ (stI HVa.out.i0)).mono ?_); rintro e wb ⟨A1, cap1, rfl, hb⟩; have HVb := Lib.hid (HVa.out.up hb); clear hb)
    | (go_at_call 18; (with_reducible refine (st_3 p F3 _ (stI HV9.out.i0)).mono ?_); rintro e wa ⟨rfl, hb⟩; have HVa := Lib.hid (HV9.out.up hb); clear hb)
    | (go_at_call 22; (with_reducible refine (sa_1 p F3 _ (stI HV8.out.i0)).mono ?_); rintro e w9 ⟨q, rfl, hb⟩; have HV9 := Lib.hid (HV8.out.up hb); clear hb)
    | (go_at_call 8; (with_reducible refine (sp_3 p F3 _ (stI HV7.out.i0)).mono ?_); rintro e w8 ⟨z, rfl, hb⟩; have HV8 := Lib.hid (HV7.out.up hb); clear hb)
    | (go_at_call 8; (with_reducible refine (sp_1 p F3 _ (stI HV6.out.i0)).mono ?_); rintro e w7 ⟨rfl, hb⟩; have HV7 := Lib.hid (HV6.out.up hb); clear hb)
    | (go_at_call 16; (with_reducible refine (su_any p F2 _ _ _ _ _ _ (stI HV5.out.i0) (by decide) (by decide) (by decide) (by decide) (sS_3 _)).mono ?_); rintro e w6 ⟨rfl, F3, h1, h2, h3⟩; have HV6 := Lib.hid (HV5.out.turn_0 (stT p F3 lS (stsOf lS [(3, 5), (0, -2)])) h1 h2 h3); clear h1 h2 h3)
    | (go_at_call 16; (with_reducible refine (su_any p F1 _ _ _ _ _ _ (stI HV4.out.i0) (by decide) (by decide) (by decide) (by decide) sS_2).mono ?_); rintro e w5 ⟨rfl, F2, h1, h2, h3⟩; have HV5 := Lib.hid (HV4.out.turn_0 (stT p F2 lS (stsOf lS [(3, 5), (0, -2)])) h1 h2 h3); clear h1 h2 h3)
    | (go_at_call 16; (with_reducible refine (su_any p F _ _ _ _ _ _ (stI HV2.out.i0) (by decide) (by decide) (by decide) (by decide) sS_1).mono ?_); rintro e w4 ⟨rfl, F1, h1, h2, h3⟩; have HV4 := Lib.hid (HV2.out.turn_0 (stT p F1 lS (stsOf lS [(3, 5)])) h1 h2 h3); clear h1 h2 h3)
    | (go_at_call 6; (with_reducible refine (sn_0 _).mono ?_); rintro e w2 ⟨rfl, hb⟩; have HV2 := Lib.hid (HV1.out.up hb); clear hb)
    | (go_at_call 6; (with_reducible refine (sn_1 _).mono ?_); rintro e w1 ⟨p, F, rfl, h1, h2, hb⟩; have HV1 := Lib.hid (HV0.out.push (stT p F lS (stsOf lS [])) hb h1 h2); clear h1 h2 hb))
  go_ret
  exact ⟨ret_bs (by first | rfl | (simp [*]; done)), HVd.out.below⟩
end Go.Proofs.YtccabgeeglhagaaGreat.Stk
/- The law's same: the cells of all levels are the document's. Printed by wip/gen/stk19.py. -/
namespace Go.Proofs.YtccabgeeglhagaaGreat.Stk
open Go Go.RowKit Lw Grd Lin Con Shp Sk Exa Lev Go.Shelf
set_option linter.unusedVariables false
set_option linter.unusedSimpArgs false
theorem ls_len {w : World} {p : Addr} {F : Nat → Prop} {c : Cfg} {sts : List LS} (h : ST w p F c sts) {n : Nat} {st : LS} (hs : sts[n]? = some st) : st.fl.length ≤ 1152 := by
  obtain ⟨hr, hc, hlen, b, B0, hdr, vals, ts, rfl, hrow, hI, rfl⟩ := h
  obtain ⟨st2, v, Q, e1, e2, e3⟩ := hrow.at (j := n) ((List.getElem?_eq_some_iff.1 hs).1)
  rw [hs] at e1
  injection e1 with e1
  subst e1
  have hE : ELV w v Q c (n : Int) st := hI.1 (elvT v Q c (n : Int) st) (List.mem_cons_of_mem _ (List.mem_cons_of_mem _ (List.mem_of_getElem? e3)))
  cases st with
  | A L =>
    obtain ⟨p, rfl, h2⟩ := hE.2
    have := h2.size.2.2
    show L.length ≤ 1152
    omega
  | S L =>
    obtain ⟨p, rfl, h2⟩ := hE.2
    have h3 : L.flatten.length = rws c * wds c := flat_dims h2.dims
    show L.flatten.length ≤ 1152
    rw [h3]
    exact Nat.le_trans (Nat.mul_le_mul (rws_bd hr).2.1 (wds_bd hr).2.1) (by omega)
set_option maxRecDepth 100000 in
set_option maxHeartbeats 8000000 in
theorem same_any (p r : Addr) (F R : Nat → Prop) (c : Cfg) (sts : List LS) (w : World) (h : ST w p F c sts) (hd : DK w r R c sts) :
    Calls Tryz.prog 20 #[.pointer (some p), .pointer (some r)] w fun e w' => e = .returned (.bool true) ∧ Below w.heap.size w w' := by
  have HS := Lib.hid h
  have hrt := h.right
  have hb1 := hrt.1.1
  have hb2 := hrt.1.2.1
  have hsl := hrt.2.2
  obtain ⟨hr, hc, hl, b0, B0, hdr0, vals0, ts0, rfl, hrow0, hI, rfl⟩ := hd
  have HH := Lib.hid (Hold.start hI)
  have HROW0 := Lib.hid hrow0
  obtain ⟨g0, cap0, rfl, hcs⟩ := ownD_cell (HH.out.i (t := ownT B0 45 hdr0 vals0) (by simp)) (by have := hrow0.lv; omega)
  obtain ⟨N, hN⟩ : ∃ N, vals0.length = N := ⟨_, rfl⟩
  have HNB : Hid (N = c.bt.toNat + 1) := Lib.hid (by have := hrow0.lv; omega)
  have hN60 : N ≤ 60 := by have := HNB.out; omega
  have HCS := Lib.hid hcs
  have d5 : w.cell? ⟨b0, 5, none⟩ = some (.slice (some ⟨g0, 0, none⟩) N cap0) := by rw [← hN]; exact box_cell (HH.out.i (t := dkB b0 c (.slice (some ⟨g0, 0, none⟩) vals0.length cap0)) (by simp)) (i := 5) rfl
  have HD5 := Lib.hid d5
  have HLS : Hid (sts.length = N) := Lib.hid (by have := hrow0.lv; omega)
  have HBB := Lib.hid (And.intro hb1 hb2)
  clear h hrt hr hc hl hrow0 hI hcs hN hsl hb1 hb2 d5
  go_enter Tryz.func20, Tryz.ntmps20
  go_wp2
  go_loopw [5] (fun iv wr => ∃ n : Nat, n ≤ N ∧ iv = .int .i64 n ∧ Below w.heap.size w wr) (fun iv _ => N - (intOf iv).toNat)
  case atStart => exact ⟨0, Nat.zero_le _, rfl, Below.refl _ _⟩
  case round =>
    obtain ⟨n, hn, rfl, hbw⟩ := hrel
    have HBW := Lib.hid hbw
    have d5 := cell_up HD5.out hbw
    have HSW := Lib.hid (HS.out.up hbw)
    by_cases hlt : n < N
    · obtain ⟨st, hst⟩ : ∃ st, sts[n]? = some st := ⟨_, List.getElem?_eq_getElem (by rw [HLS.out]; exact hlt)⟩
      obtain ⟨p0, Q0, e1, e2, e3⟩ := dk_at HROW0.out HH.out hst
      have d6 := cell_up (HCS.out n _ e1) hbw
      have HE := Lib.hid (dlv_up e2 hbw)
      have HLN := Lib.hid (ls_len HS.out hst)
      have hfl : lvFl sts (n : Int) = st.fl := (spv_yes (c := c) hst 0).2.2
      have HFL := Lib.hid hfl
      have hq1 : st.fl.length ≤ 9223372036854775807 := by have := HLN.out; omega
      have hlt2 : (n : Int) < (N : Int) := by omega
      have hn0 : (0 : Int) ≤ (n : Int) := by omega
      have hn1 : (n : Int) ≤ 9223372036854775807 := by omega
      have hn7 : -9223372036854775808 ≤ (n : Int) := by omega
      have CL1 : Hid (∀ X, Below wr.heap.size wr X → Calls Tryz.prog 13 #[.pointer (some p), .int .i64 n] X fun e w' => ∃ (A : Option Addr) (cap : Nat), e = .returned (.slice A st.fl.length cap) ∧ Rd .i64 w' A st.fl ∧ Below X.heap.size X w' ∧ Below wr.heap.size wr w') := Lib.hid (fun X hX => (cs_cells _ _ c sts n _ (HSW.out.up hX) hn7 hn1).mono (fun e w' ⟨A, m, cap, h1, h2, h3, _, h5⟩ => by
        rw [hfl] at h2 h3
        subst h3
        exact ⟨A, cap, h1, h2, h5, hX.trans (h5.mono hX.size)⟩))
      have CL2 : Hid (∀ X, Below wr.heap.size wr X → Calls Tryz.prog 14 #[.pointer (some p0)] X fun e w' => ∃ (A : Addr) (cap : Nat), e = .returned (.slice (some A) st.fl.length cap) ∧ Rd .i64 w' (some A) st.fl ∧ Below X.heap.size X w' ∧ Below wr.heap.size wr w') := Lib.hid (fun X hX => (dv_cells p0 Q0 c n st _ (dlv_up HE.out hX)).mono (fun e w' ⟨A, m, cap, h1, h2, h3, _, _, _, h5⟩ => by
        subst h3
        exact ⟨A, cap, h1, h2, h5, hX.trans (h5.mono hX.size)⟩))
      clear e1 e2 e3 hst hfl hbw
      go_wp2
      go_region_held3 (fun w' => Below wr.heap.size wr w' ∧ w'.cell? ⟨b0, 5, none⟩ = some (.slice (some ⟨g0, 0, none⟩) N cap0) ∧ w'.cell? ⟨g0, n, none⟩ = some (.pointer (some p0))) (first | (refine ⟨?_, ?_, ?_⟩ <;> (first | (with_reducible assumption) | (with_reducible refine cell_up d5 ?_) | (with_reducible refine cell_up d6 ?_) | skip) <;> ((repeat' (first | (with_reducible exact Below.refl _ _) | (with_reducible assumption) | (with_reducible refine below_over ?_ _ _) | (with_reducible refine Lw.below_alloc ?_ _) | (with_reducible refine Below.drew ?_) | (with_reducible refine below_drewN ?_ _) | (with_reducible refine Below.setCell ?_ ?_ _) | go_size))))) (first
        | (go_at_call 13; (with_reducible refine (CL1.out _ (by (repeat' (first | (with_reducible exact Below.refl _ _) | (with_reducible assumption) | (with_reducible refine below_over ?_ _ _) | (with_reducible refine Lw.below_alloc ?_ _) | (with_reducible refine Below.drew ?_) | (with_reducible refine below_drewN ?_ _) | (with_reducible refine Below.setCell ?_ ?_ _) | go_size)))).mono ?_); rintro e w5 ⟨A5, cap5, rfl, hrd5, hb5, hw5⟩; have RD5 := Lib.hid hrd5; clear hrd5)
        | (go_at_call 14; (with_reducible refine (CL2.out _ hw5).mono ?_); rintro e w6 ⟨A6, cap6, rfl, hrd6, hb6, hw6⟩; have RD6 := Lib.hid (And.intro (RD5.out.up hb6) hrd6); clear hrd6)
        | (go_at_call 23; (with_reducible refine (rsame_any _ _ _ _ _ _ st.fl st.fl _ RD6.out.1 RD6.out.2 rfl rfl hq1 hq1).mono ?_); rintro e w7 ⟨rfl, hb7⟩; have hw7 : Below wr.heap.size wr w7 := hw6.trans (hb7.mono hw6.size)))
      all_goals go_wp2
      all_goals go_roundw
      all_goals first
        | (simp [intOf]; omega)
        | exact ⟨n + 1, by omega, by go_num, HBW.out.trans ((show Below wr.heap.size wr _ from (by (repeat' (first | (with_reducible exact Below.refl _ _) | (with_reducible assumption) | (with_reducible refine below_over ?_ _ _) | (with_reducible refine Lw.below_alloc ?_ _) | (with_reducible refine Below.drew ?_) | (with_reducible refine below_drewN ?_ _) | (with_reducible refine Below.setCell ?_ ?_ _) | go_size)))).mono HBW.out.size)⟩
    · obtain rfl : n = N := by omega
      have hfl : lvFl sts (n : Int) = [] := (spv_no (c := c) HS.out.right.2.2 HS.out.right.1.1 (fun h => by have := HNB.out; omega) 0).2.2
      have HFL := Lib.hid hfl
      have hn1 : (n : Int) ≤ 9223372036854775807 := by omega
      clear hfl hbw
      go_wp2_with (go_at_call 13; (with_reducible refine (cs_cells _ _ c sts n _ HSW.out (by omega) hn1).mono ?_); rintro e w5 ⟨A5, m5, cap5, rfl, -, hlen5, -, hb5⟩; rw [HFL.out] at hlen5; subst hlen5)
      go_ret
      exact ⟨rfl, HBW.out.trans (hb5.mono HBW.out.size)⟩
end Go.Proofs.YtccabgeeglhagaaGreat.Stk
/- What StackPlays wants beside the contracts of the calls. Printed by wip/gen/stk20.py. -/
namespace Go.Proofs.YtccabgeeglhagaaGreat.Stk
open Go Go.RowKit Lw Grd Lin Con Shp Sk Exa Lev Go.Shelf
set_option linter.unusedVariables false
set_option linter.unusedSimpArgs false
theorem in64_flat {m n : Nat} {L : List (List Int)} (h : Dims m n L) : In64 L.flatten := fun v hv => by
  obtain ⟨r, hr, h2⟩ := List.mem_flatten.1 hv
  exact (h.rows r hr).2 v h2
theorem elv_in {w : World} {v : Value} {F : Nat → Prop} {c : Cfg} {l : Int} {st : LS} (h : ELV w v F c l st) : In64 st.fl := by
  cases st with
  | A L =>
    obtain ⟨p, rfl, h2⟩ := h.2
    exact h2.in64
  | S L =>
    obtain ⟨p, rfl, h2⟩ := h.2
    exact in64_flat h2.dims
theorem st_lvl {w : World} {p : Addr} {F : Nat → Prop} {c : Cfg} {sts : List LS} (h : ST w p F c sts) {n : Nat} {st : LS} (hs : sts[n]? = some st) : ∃ v Q, ELV w v Q c (n : Int) st := by
  obtain ⟨hr, hc, hlen, b, B0, hdr, vals, ts, rfl, hrow, hI, rfl⟩ := h
  obtain ⟨st2, v, Q, e1, e2, e3⟩ := hrow.at (j := n) ((List.getElem?_eq_some_iff.1 hs).1)
  rw [hs] at e1
  injection e1 with e1
  subst e1
  exact ⟨v, Q, hI.1 (elvT v Q c (n : Int) st) (List.mem_cons_of_mem _ (List.mem_cons_of_mem _ (List.mem_of_getElem? e3)))⟩
theorem fl_pos {w : World} {v : Value} {F : Nat → Prop} {c : Cfg} {l : Int} {st : LS} (hr : IsRight c) (h : ELV w v F c l st) : 1 ≤ st.fl.length := by
  cases st with
  | A L =>
    obtain ⟨p, rfl, h2⟩ := h.2
    exact h2.size.2.1
  | S L =>
    obtain ⟨p, rfl, h2⟩ := h.2
    have h3 : L.flatten.length = rws c * wds c := flat_dims h2.dims
    show 1 ≤ L.flatten.length
    rw [h3]
    exact Nat.mul_pos (rws_bd hr).1 (wds_bd hr).1
/-- A level of the document's stack, as the law reaches it; what its turning turns. -/
theorem dk_lvl {w : World} {b0 : Nat} {F : Nat → Prop} {c : Cfg} {sts : List LS} (h : DK w ⟨b0, 0, none⟩ F c sts) {n : Nat} {st : LS} (hs : sts[n]? = some st) : ∃ (g0 N cap0 : Nat) (p0 : Addr) (Q0 : Nat → Prop), w.cell? ⟨b0, 5, none⟩ = some (.slice (some ⟨g0, 0, none⟩) N cap0) ∧ n < N ∧ w.cell? ⟨g0, n, none⟩ = some (.pointer (some p0)) ∧ DLV w p0 Q0 c (n : Int) st ∧ (∀ k, Q0 k → F k) ∧
    (∀ (w' : World) (Q' : Nat → Prop) (st' : LS), DLV w' p0 Q' c (n : Int) st' → Kept Q0 w w' → (∀ k, Q' k → Q0 k ∨ w.heap.size ≤ k) → ∃ F', DK w' ⟨b0, 0, none⟩ F' c (sts.set n st') ∧ Kept F w w' ∧ (∀ q, F' q → F q ∨ w.heap.size ≤ q)) := by
  obtain ⟨hr, hc, hl, b1, B0, hdr0, vals0, ts0, e0, hrow0, hI, rfl⟩ := h
  injection e0 with e0
  subst e0
  have hH := Hold.start hI
  obtain ⟨g0, cap0, rfl, hcs⟩ := ownD_cell (hH.i (t := ownT B0 45 hdr0 vals0) (by simp)) (by have := hrow0.lv; omega)
  obtain ⟨p0, Q0, e1, e2, e3⟩ := dk_at hrow0 hH hs
  have hn := (List.getElem?_eq_some_iff.1 hs).1
  refine ⟨g0, vals0.length, cap0, p0, Q0, box_cell (hH.i (t := dkB b0 c (.slice (some ⟨g0, 0, none⟩) vals0.length cap0)) (by simp)) (i := 5) rfl, by rw [hrow0.lv]; exact hn, hcs n _ e1, e2, fun k hk => ⟨dlT (.pointer (some p0)) Q0 c (n : Int) st, List.mem_cons_of_mem _ (List.mem_cons_of_mem _ (List.mem_of_getElem? e3)), hk⟩, fun w' Q' st' h1 h2 h3 => ?_⟩
  have h4 := Hold.set (pre := [dkB b0 c (.slice (some ⟨g0, 0, none⟩) vals0.length cap0), ownT B0 45 (.slice (some ⟨g0, 0, none⟩) vals0.length cap0) vals0]) (post := []) (by simpa using hH) e3 (dlT (.pointer (some p0)) Q' c (n : Int) st') ⟨p0, rfl, h1⟩ h2 h3
  have h5 := dk_of hr hc (by rw [List.length_set]; exact hl) (hrow0.put e1 Q' st') (by simpa using h4)
  exact ⟨_, h5.1, h5.2.1, h5.2.2⟩
theorem dk_ptr {w : World} {r : Addr} {F : Nat → Prop} {c : Cfg} {sts : List LS} (h : DK w r F c sts) : ∃ b0, r = ⟨b0, 0, none⟩ := by
  obtain ⟨hr, hc, hl, b1, B0, hdr0, vals0, ts0, e0, _⟩ := h
  exact ⟨b1, e0⟩
end Go.Proofs.YtccabgeeglhagaaGreat.Stk
