/- The statement StackOrder of layer 15 holds: it does not matter in which order updates are made. Printed by wip/gen/stk6.py. -/
import Derived.Test.YtccabgeeglhagaaMd
import Derived.Test.YtccabgeeglhagaaMh
import Derived.Test.YtccabgeeglhagaaMj
import Derived.Deep.LoopGhost
import Derived.Deep.RegionHeld3
import Derived.Deep.DeepCutAuto
import Derived.Deep.QuietTactic
import Derived.BigQuiet
namespace Go.Proofs.Ytccabgeeglhagaa.Stk
open Go Go.RowKit Lw Grd Lin Con Shp Sk Exa Lev
set_option linter.unusedVariables false
set_option linter.unusedSimpArgs false
theorem put_at2 {w0 w : World} {ts : List Thing} (h : Have w0 w ts) (t : Thing) (ht : t.I w) (hn : ∀ k, t.F k → ∀ u ∈ ts, ¬ u.F k) (hw : ∀ k, t.F k → w0.heap.size ≤ k) : Have w0 w (t :: ts) :=
  ⟨ht, hw, fun u hu k hk hu2 => hn k hk u hu hu2, h⟩
theorem ord_end {w w3 w5 : World} {A5 : Addr} {n cap gp : Nat} {vs : Array Value} {ps : Ups} {ts : List Thing} (HV : Have w w3 ts) (hb5 : Below w3.heap.size w3 w5) (hown : w5.ownsRow w3.heap.size 36 2 (.slice (some A5) n cap) n (flatU ps)) (hl : ps.length = n)
    (hpb : ∀ u ∈ ps, (0 ≤ u.1 ∧ u.1 ≤ 18446744073709551615) ∧ (-9223372036854775808 ≤ u.2 ∧ u.2 ≤ 9223372036854775807)) (hg : w5.heap[gp]? = some (.cells vs 27 (0, 0))) (hgp : w3.heap.size ≤ gp) :
    Have w w5 (boxT gp 27 vs :: upT (some A5) n cap ps :: ts) := by
  obtain ⟨A, c2, e1, hI, hF⟩ := upd_own hown hl hpb
  injection e1 with e1 _ e2
  subst e1 e2
  refine put_at2 (HV.push (upT (some A5) n cap ps) hb5 hI hF) (boxT gp 27 vs) hg ?_ ?_
  · intro k hk u hu hu2
    have hk2 : k = gp := hk
    subst hk2
    rcases List.mem_cons.1 hu with rfl | hu
    · obtain ⟨a, e, hab⟩ := hu2
      injection e with e
      subst e
      rcases hown.2 with ⟨h1, _⟩ | ⟨g, cp, cur, h1, h2, h3, _⟩
      · cases h1
      · injection h1 with h1
        injection h1 with h1
        subst h1
        simp only at hab
        subst hab
        rw [hg] at h3
        injection h3 with h3
        injection h3 with _ h4
        exact absurd h4 (by decide)
    · have h2 := u.lt w3 (HV.one u hu).1 k hu2
      omega
  · intro k hk
    have hk2 : k = gp := hk
    have := HV.below.size
    omega
theorem ord_end2 {w w3 w5 : World} {A5 : Addr} {n cap : Nat} {ps : Ups} {ts : List Thing} (HV : Have w w3 ts) (hb5 : Below w3.heap.size w3 w5) (hown : w5.ownsRow w3.heap.size 36 2 (.slice (some A5) n cap) n (flatU ps)) (hl : ps.length = n)
    (hpb : ∀ u ∈ ps, (0 ≤ u.1 ∧ u.1 ≤ 18446744073709551615) ∧ (-9223372036854775808 ≤ u.2 ∧ u.2 ≤ 9223372036854775807)) : Have w w5 (upT (some A5) n cap ps :: ts) := by
  obtain ⟨A, c2, e1, hI, hF⟩ := upd_own hown hl hpb
  injection e1 with e1 _ e2
  subst e1 e2
  exact HV.push (upT (some A5) n cap ps) hb5 hI hF
theorem kept6 (w : World) (b : Nat) (v0 v1 v2 v3 v4 v5 : Value) : Kept (fun k => k = b) w ((((((w.setCell ⟨b, 0, none⟩ v0).setCell ⟨b, 1, none⟩ v1).setCell ⟨b, 2, none⟩ v2).setCell ⟨b, 3, none⟩ v3).setCell ⟨b, 4, none⟩ v4).setCell ⟨b, 5, none⟩ v5) :=
  ((((((Kept.refl (fun k => k = b) w).set (.inl rfl) _ _).set (.inl rfl) _ _).set (.inl rfl) _ _).set (.inl rfl) _ _).set (.inl rfl) _ _).set (.inl rfl) _ _
theorem turn6 {w w5 : World} {b : Nat} {e : TypeId} {u0 u1 u2 u3 u4 u5 : Value} {ts : List Thing} (h : Have w w5 (boxT b e #[u0, u1, u2, u3, u4, u5] :: ts)) (v0 v1 v2 v3 v4 v5 : Value) :
    Have w ((((((w5.setCell ⟨b, 0, none⟩ v0).setCell ⟨b, 1, none⟩ v1).setCell ⟨b, 2, none⟩ v2).setCell ⟨b, 3, none⟩ v3).setCell ⟨b, 4, none⟩ v4).setCell ⟨b, 5, none⟩ v5) (boxT b e #[v0, v1, v2, v3, v4, v5] :: ts) :=
  h.turn_0 (boxT b e #[v0, v1, v2, v3, v4, v5]) (boxs_set (boxs_set (boxs_set (boxs_set (boxs_set (boxs_set h.i0 0 v0) 1 v1) 2 v2) 3 v3) 4 v4) 5 v5) (kept6 _ _ _ _ _ _ _ _) (fun k hk => .inl hk)
theorem push_box {w w5 : World} {ts : List Thing} (h : Have w w5 ts) (vs : Array Value) (e : TypeId) : Have w (w5.alloc (.cells vs e)) (boxT w5.heap.size e vs :: ts) :=
  h.push (boxT w5.heap.size e vs) (Lw.below_alloc (Below.refl _ _) _) (heap_alloc_new _ _) (fun k hk => Nat.le_of_eq hk.symm)
theorem pick3 {w w' : World} {a b c d e f g : Thing} (h : Have w w' [a, b, c, d, e, f, g]) : Have w w' [b, e, f] := h.drop_0.drop_1.drop_1.drop_3
theorem nx_w1 {n : Nat} (h : n ≤ 60) : IntKind.i64.wrap ((n : Int) + 1) = ((n + 1 : Nat) : Int) := by rw [IntWalk.i64_in _ ⟨by omega, by omega⟩]; rfl
theorem nx_w2 {n : Nat} (h : n ≤ 60) : wrap64 ((n : Int) + 1) = ((n + 1 : Nat) : Int) := by rw [IntWalk.wrap64_in _ ⟨by omega, by omega⟩]; rfl
theorem le_trans64 {n : Nat} (h : n ≤ 1024) : n ≤ 9223372036854775807 := by omega
theorem e_z1 {k0 K : Nat} (h : k0 = K) : k0 - K = 0 := by omega
theorem e_z2 {k0 K N n0 : Nat} (h : k0 = K) (h1 : N ≤ n0) (h2 : n0 ≤ k0) : N - K = 0 := by omega
theorem e_z3 {k0 K N n0 m : Nat} (h : k0 = K) (h1 : N ≤ n0) (h2 : n0 ≤ k0) (h3 : K ≤ N) (h4 : m = N) : m = K := by omega
theorem e_z4 {k0 K N n0 : Nat} {qs : Ups} (h : k0 = K) (h1 : N ≤ n0) (h2 : n0 ≤ k0) : (qs.take N).drop K = [] := List.drop_of_length_le (by rw [List.length_take]; omega)
theorem own_type {w : World} {base : Nat} {e e2 : TypeId} {size : Nat} {v : Value} {n : Nat} {xs : List Value} (h : w.ownsRow base e size v n xs) {g : Nat} {vs : Array Value} {fr : Nat × Nat} (hv : v.ownBlock = some g) (hg : w.heap[g]? = some (.cells vs e2 fr)) (hne : e2 ≠ e) : False := by
  rcases h.2 with ⟨h1, _⟩ | ⟨g2, cp, cur, h1, h2, h3, _⟩
  · rw [h1] at hv
    cases hv
  · rw [h1] at hv
    injection hv with hv
    simp only at hv
    subst hv
    rw [hg] at h3
    injection h3 with h3
    injection h3 with _ h4
    exact hne h4
theorem hp_lt2 {w : World} {b : Nat} {o : Obj} (h : w.heap[b]? = some o) : b < w.heap.size := by
  rcases Nat.lt_or_ge b w.heap.size with h1 | h1
  · exact h1
  · rw [Array.getElem?_eq_none h1] at h; cases h
theorem pc_alloc2 {X : World} {n : Nat} {vs : Array Value} {t : TypeId} (h : X.heap.size = n) : (X.alloc (.cells vs t)).heap[n]? = some (.cells vs t (0, 0)) := by
  subst h
  exact heap_alloc_new X _
theorem pc_alloc3 (w : World) (vs : Array Value) (t : TypeId) (o : Obj) : (((w.alloc (.cells vs t)).alloc o).drew).heap[w.heap.size]? = some (.cells vs t (0, 0)) := by
  show ((w.alloc (.cells vs t)).alloc o).heap[w.heap.size]? = _
  have h1 := (World.grownBy_alloc (w.alloc (.cells vs t)) o none).block w.heap.size (by simp) (by simp)
  rw [h1]
  exact heap_alloc_new w _
theorem store6 {w : World} {b : Nat} {e : TypeId} {u0 u1 u2 u3 u4 u5 : Value} (h : (boxT b e #[u0, u1, u2, u3, u4, u5]).I w) (v0 v1 v2 v3 v4 v5 : Value) :
    (boxT b e #[v0, v1, v2, v3, v4, v5]).I ((((((w.setCell ⟨b, 0, none⟩ v0).setCell ⟨b, 1, none⟩ v1).setCell ⟨b, 2, none⟩ v2).setCell ⟨b, 3, none⟩ v3).setCell ⟨b, 4, none⟩ v4).setCell ⟨b, 5, none⟩ v5) :=
  boxs_set (boxs_set (boxs_set (boxs_set (boxs_set (boxs_set h 0 v0) 1 v1) 2 v2) 3 v3) 4 v4) 5 v5
theorem fl_len1 {qs : Ups} {n0 N K : Nat} (h : qs.length = n0) (hN : N ≤ n0) : (flatU ((qs.take N).drop K)).length = (N - K) * 2 := by rw [flatU_len, List.length_drop, List.length_take, h]; omega
theorem fl_len2 {qs : Ups} {n0 N K : Nat} (h : qs.length = n0) (hN : N ≤ n0) (hK : K ≤ N) : (flatU (qs.take K)).length = K * 2 := by rw [flatU_len, List.length_take, h]; omega
theorem n1_ne (N : Nat) : ¬ (N : Int) + 1 = 0 := by omega
theorem n1_w1 {N : Nat} (h : N ≤ 60) : IntKind.i64.wrap ((N : Int) + 1) = (N : Int) + 1 := IntWalk.i64_in _ ⟨by omega, by omega⟩
theorem n1_w2 {N : Nat} (h : N ≤ 60) : wrap64 ((N : Int) + 1) = (N : Int) + 1 := IntWalk.wrap64_in _ ⟨by omega, by omega⟩
theorem n1_min {N n0 : Nat} (h : N = min 60 n0) : (if (60 : Int) < n0 then (60 : Int) else (n0 : Int)) = N := by split <;> omega
theorem chAll_swap {m n : Nat} {b : Int} {us vs : Ops} (h : OpsOk m n b (us ++ vs)) : chAll (zerosL m n) (vs ++ us) = chAll (zerosL m n) (us ++ vs) := by
  have h2 : OpsOk m n b (vs ++ us) := fun o ho => h o (by rcases List.mem_append.1 ho with g | g; exact List.mem_append_right _ g; exact List.mem_append_left _ g)
  refine sz_ext (chAll_sz (sz_zeros m n) h2) (chAll_sz (sz_zeros m n) h) fun r c hr hc => ?_
  rw [chAll_cel hr hc (sz_zeros m n) h2, chAll_cel hr hc (sz_zeros m n) h, hit_app, hit_app, Int.add_comm (hit vs r c)]
theorem sums_swap (K : Nat) (us vs : Ups) : sums K (vs ++ us) = sums K (us ++ vs) := by
  unfold sums
  exact List.map_congr_left fun k _ => by rw [hasK_app, hasK_app, Int.add_comm]
theorem upsIn_swap {c : Cfg} {l : Int} {us vs : Ups} (h : UpsIn c l (us ++ vs)) : UpsIn c l (vs ++ us) :=
  ⟨fun u hu => h.1 u (by rcases List.mem_append.1 hu with g | g; exact List.mem_append_right _ g; exact List.mem_append_left _ g), fun hm u hu => h.2 hm u (by rcases List.mem_append.1 hu with g | g; exact List.mem_append_right _ g; exact List.mem_append_left _ g)⟩
theorem stsOf_swap {c : Cfg} (hr : IsRight c) (hm : c.md ≠ 2) {us vs : Ups} (h : UpsIn c 0 (us ++ vs)) : stsOf c (vs ++ us) = stsOf c (us ++ vs) := by
  unfold stsOf
  refine List.map_congr_left fun n hn => ?_
  have hn2 : n < c.bt.toNat + 1 := List.mem_range.1 hn
  have hb := hr.1
  have hi := upN_in hr h (n := n) (by omega)
  unfold stOf
  rw [upN_app, upN_app] at *
  split
  · rw [sums_swap]
  · congr 1
    rw [cells_lin hm, cells_lin hm, opsU_app, opsU_app]
    refine chAll_swap (b := 1099511627776) ?_
    rw [← opsU_app]
    exact opsU_ok hi.1
/-- Sixty updates, turned about a place. -/
theorem upsR_turn (c : Cfg) (l : Int) (qs : Ups) {N K : Nat} (hN : N = min 60 qs.length) (hK : K ≤ N) :
    upsR c l ((qs.take N).drop K ++ qs.take K) 0 60 = (upsR c l qs 0 60).drop K ++ (upsR c l qs 0 60).take K := by
  have h1 : qs.take 60 = qs.take N := by
    rw [hN, ← List.take_take, List.take_length]
  have h2 : ((qs.take N).drop K ++ qs.take K).length ≤ 60 := by
    rw [List.length_append, List.length_drop, List.length_take, List.length_take]
    omega
  unfold upsR
  rw [List.drop_zero, List.drop_zero, List.take_of_length_le h2, h1, List.map_append, List.map_drop, ← List.map_take, List.take_take, Nat.min_eq_left hK]
set_option maxRecDepth 100000 in
set_option maxHeartbeats 16000000 in
theorem ord_g_false (x : Cfg) (A : Option Addr) (n0 k0 : Nat) (qs : Ups) (at' : Int) (w : World) (hx : x.Ok) (hq : UpdV w A n0 k0 qs) (N K : Nat) (hN : N = min 60 n0) (X : Int) (a1 : bits .and .i64 at' 65535 = X) (b1 : 0 ≤ X) (dd : Int.tmod X ((N : Int) + 1) = (K : Int)) (hK : K ≤ N) (ad : Addr) (hA : A = some ad) (hck : K < k0) :
    Calls Try.prog 6 #[.agg #[.int .i64 x.bt, .int .i64 x.rw, .int .i64 x.wd, .int .i64 x.md, .int .u64 x.sd, .slice A n0 k0], .int .i64 at', .bool false] w fun e w' => e = .returned (.bool true) ∧ Below w.heap.size w w' := by
  obtain ⟨c, hC⟩ : ∃ c, { anyC x 10 9 with md := 1 } = c := ⟨_, rfl⟩
  have hr0 := any_right x 10 9 (by omega) (by omega) (by omega) (by omega)
  have hr : IsRight c := by rw [← hC]; exact ⟨hr0.1, hr0.2.1, hr0.2.2.1, hr0.2.2.2.1, hr0.2.2.2.2.1, hr0.2.2.2.2.2.1, (by show (1 : Int) ≤ 1; omega), (by show (1 : Int) ≤ 3; omega)⟩
  have hmd : c.md = 1 := by rw [← hC]
  have hbt := hr.1
  have hb5 := hr.2.1
  have hkeys : 1 ≤ keys c 0 := keys_pos.2 ⟨hr, by omega, by omega⟩
  have FD := Lib.hid (fun w hq => fed_m x A n0 k0 qs 1 (by omega) (by omega) 0 60 0 60 c w hx hq rfl rfl (by omega) (by omega) hC)
  have hnl := hq.len
  obtain ⟨ps, hps⟩ : ∃ ps, (qs.take N).drop K ++ qs.take K = ps := ⟨_, rfl⟩
  have FD2 := Lib.hid (fun B m q w hq => fed_m x B m q ps 1 (by omega) (by omega) 0 60 0 60 c w hx hq rfl rfl (by omega) (by omega) hC)
  have hin := upsR_in hkeys qs 0 60
  have htn := upsR_turn c 0 qs (N := N) (K := K) (by rw [hN, hnl]) hK
  rw [hps] at htn
  obtain ⟨us, hus⟩ : ∃ us, upsR c 0 qs 0 60 = us := ⟨_, rfl⟩
  rw [hus] at FD htn hin
  have hsw : stsOf c (upsR c 0 ps 0 60) = stsOf c us := by
    have h1 := stsOf_swap hr (by omega) (us := us.take K) (vs := us.drop K) (by rw [List.take_append_drop]; exact hin)
    rw [List.take_append_drop] at h1
    rw [htn, h1]
  rw [hsw] at FD2
  have HLV := Lib.hid (fun (n : Nat) (hn : (n : Int) ≤ c.bt) => lv_size hr hin (n := n) hn)
  obtain ⟨Z, hZ⟩ : ∃ Z, stsOf c us = Z := ⟨_, rfl⟩
  rw [hZ] at FD FD2 HLV
  have CTO := Lib.hid (fun p F w hs => cs_total p F c Z w hs)
  obtain ⟨TV, hTV⟩ : ∃ v, spV c Z c.bt 0 = v := ⟨_, rfl⟩
  rw [hTV] at CTO
  have hpl : ps.length = N := by rw [← hps, List.length_append, List.length_drop, List.length_take, List.length_take]; omega
  have hpb : ∀ u ∈ ps, (0 ≤ u.1 ∧ u.1 ≤ 18446744073709551615) ∧ (-9223372036854775808 ≤ u.2 ∧ u.2 ≤ 9223372036854775807) := by
    intro u hu
    rw [← hps] at hu
    have hm : u ∈ qs := by
      rcases List.mem_append.1 hu with g | g
      · exact List.mem_of_mem_take (List.mem_of_mem_drop g)
      · exact List.mem_of_mem_take g
    obtain ⟨i, hi⟩ := List.getElem?_of_mem hm
    obtain ⟨_, _, _, _, _, _, _, g1, g2⟩ := hq.at hi
    exact ⟨g1, g2⟩
  have HPB := Lib.hid hpb
  have hfl : flatU ps = flatU ((qs.take N).drop K) ++ flatU (qs.take K) := by rw [← hps]; unfold flatU; rw [List.flatMap_append]
  have hfc1 := (flatU_cut (qs.take N) K).2
  have hfc2 := (flatU_cut qs K).1
  have hfc3 := (flatU_cut qs N).1
  have HQ := Lib.hid hq
  have hnc := hq.nc
  have hcm := hq.cm
  unfold maxLen at hcm
  obtain ⟨i0, hi, hz0, hz1, hz2⟩ := info_parts upd_info
  have hN6 : N ≤ 60 := by omega
  have hNn : N ≤ n0 := by omega
  have hmin : (if (60 : Int) < n0 then (60 : Int) else (n0 : Int)) = N := n1_min hN
  have hw1 : IntKind.i64.wrap ((N : Int) + 1) = (N : Int) + 1 := n1_w1 hN6
  have hw2 : wrap64 ((N : Int) + 1) = (N : Int) + 1 := n1_w2 hN6
  have hbn : ¬ (N : Int) + 1 = 0 := n1_ne N
  have HBX : Hid (Have w (w.alloc (.cells #[.int .i64 x.bt, .int .i64 x.rw, .int .i64 x.wd, .int .i64 x.md, .int .u64 x.sd, .slice A n0 k0] 27)) [boxT w.heap.size 27 #[.int .i64 x.bt, .int .i64 x.rw, .int .i64 x.wd, .int .i64 x.md, .int .u64 x.sd, .slice A n0 k0]]) := Lib.hid (box_new w _ _)
  subst hA
  have hR1 : Hid (RdV w (some (ad.add (K * 2))) (flatU ((qs.take N).drop K))) := Lib.hid (by rw [hfc1, hfc3]; exact ((upd_rdv hq).take (N * 2)).drop (K * 2))
  have HPL := Lib.hid hpl
  have HFL := Lib.hid hfl
  have HL1 : Hid ((flatU ((qs.take N).drop K)).length = (N - K) * 2) := Lib.hid (fl_len1 hnl hNn)
  have HL2 : Hid ((flatU (qs.take K)).length = K * 2) := Lib.hid (fl_len2 hnl hNn hK)
  have hR2 : Hid (RdV w (some ad) (flatU (qs.take K))) := Lib.hid (by rw [hfc2]; exact (upd_rdv hq).take (K * 2))
  clear hr hr0 hC hmd hkeys htn hin hus hsw hZ hTV hpl hpb hps hfl hfc1 hfc2 hfc3 hq hx b1 hnl hN
  go_enter Try.func6, Try.ntmps6
  go_upto_region 8 with (first
    | (go_at_call 10; (with_reducible refine (FD.out _ (HQ.out.up HV1.out.below)).mono ?_); rintro e w2 ⟨p, F, rfl, hv⟩; have HV2 := Lib.hid (HV1.out.join hv); simp only [List.cons_append, List.nil_append] at HV2; clear hv; have HV3 := Lib.hid (HV2.out.push (boxT w2.heap.size 24 #[.int .i64 c.bt, .int .i64 c.rw, .int .i64 c.wd, .int .i64 c.md, .int .u64 c.sd]) (Lw.below_alloc (Below.refl _ _) _) (heap_alloc_new w2 _) (fun k hk => Nat.le_of_eq hk.symm)); clear x0 x1 x2 x3 x4 x5; obtain ⟨x0, x1, x2, x3, x4, x5⟩ := box6 HV3.out.i2)
    | (go_at_call 9; (with_reducible refine (shown_any _).mono ?_); rintro e w1 ⟨rfl, hb⟩; have HV1 := Lib.hid (HBX.out.up hb); clear hb; obtain ⟨x0, x1, x2, x3, x4, x5⟩ := box6 HV1.out.i0))
  obtain ⟨gc, hgc⟩ : ∃ g, w2.heap.size = g := ⟨_, rfl⟩
  rw [hgc] at HV3 ⊢
  obtain ⟨w3, hw3⟩ : ∃ w3, w3 = w2.alloc (.cells #[.int .i64 c.bt, .int .i64 c.rw, .int .i64 c.wd, .int .i64 c.md, .int .u64 c.sd] 24) := ⟨_, rfl⟩
  rw [← hw3] at HV3 x0 x1 x2 x3 x4 x5 ⊢
  clear hw3 hgc HV2 HV1 HBX FD hw1 hw2 hbn hmin a1 dd
  have hbw3 := HV3.out.below
  have hkk : ¬ k0 = K := by omega
  have hs0 : (0 : Int) ≤ (K : Int) := by omega
  have hs1 : (K : Int) ≤ (N : Int) := by omega
  have hs2 : (N : Int) ≤ (k0 : Int) := by omega
  have hs3 : (K : Int) ≤ (k0 : Int) := by omega
  have hs4 : ¬ (N : Int) < (K : Int) := by omega
  have hs5 : ¬ (k0 : Int) < (N : Int) := by omega
  have hs6 : ¬ (k0 : Int) < (K : Int) := by omega
  go_cut [12] (fun s12 wx => ∃ (gp : Nat) (A5 : Option Addr) (cap5 : Nat), s12 = .pointer (some ⟨gp, 0, none⟩) ∧ Have w wx [boxT gp 27 #[.int .i64 x.bt, .int .i64 x.rw, .int .i64 x.wd, .int .i64 x.md, .int .u64 x.sd, .slice A5 N cap5], upT A5 N cap5 ps, boxT gc 24 #[.int .i64 c.bt, .int .i64 c.rw, .int .i64 c.wd, .int .i64 c.md, .int .u64 c.sd], stT p F c Z, boxT w.heap.size 27 #[.int .i64 x.bt, .int .i64 x.rw, .int .i64 x.wd, .int .i64 x.md, .int .u64 x.sd, .slice (some ad) n0 k0]])
  case first =>
    skip
    skip
    skip
    go_region_held3 (fun w' => w'.cell? ⟨w.heap.size, 0, none⟩ = some (.int .i64 x.bt) ∧ w'.cell? ⟨w.heap.size, 1, none⟩ = some (.int .i64 x.rw) ∧ w'.cell? ⟨w.heap.size, 2, none⟩ = some (.int .i64 x.wd) ∧ w'.cell? ⟨w.heap.size, 3, none⟩ = some (.int .i64 x.md) ∧ w'.cell? ⟨w.heap.size, 4, none⟩ = some (.int .u64 x.sd) ∧ w'.cell? ⟨w.heap.size, 5, none⟩ = some (.slice (some ad) n0 k0)) (first | (refine ⟨?_, ?_, ?_, ?_, ?_, ?_⟩ <;> (first | (with_reducible assumption) | (with_reducible refine cell_up x0 ?_) | (with_reducible refine cell_up x1 ?_) | (with_reducible refine cell_up x2 ?_) | (with_reducible refine cell_up x3 ?_) | (with_reducible refine cell_up x4 ?_) | (with_reducible refine cell_up x5 ?_)) <;> (repeat' (first | (with_reducible exact Below.refl _ _) | (with_reducible assumption) | (with_reducible refine below_over ?_ _ _) | (with_reducible refine Lw.below_alloc ?_ _) | (with_reducible refine Below.drew ?_) | (with_reducible refine below_drewN ?_ _) | (with_reducible refine Below.setCell ?_ ?_ _) | go_size)))) (first
      | (refine appv_step rfl _ _ 25 rfl w3.heap.size 36 i0 (.agg #[.int .u64 0, .int .i64 0]) 2 16 upds_u hi hz0 hz1 hz2 rfl (by decide) (.slice (some ⟨w3.heap.size, 0, none⟩) 0 0) 0 [] rfl (own_empty w3.drew _ _ _ (Nat.le_refl _)) (fun h => by cases h) (some (ad.add (K * 2))) (N - K) (k0 - K) (flatU ((qs.take N).drop K)) rfl (by simp) HL1.out (hR1.out.up (by repeat' (first | (with_reducible exact Below.refl _ _) | (with_reducible assumption) | (with_reducible refine below_over ?_ _ _) | (with_reducible refine Lw.below_alloc ?_ _) | (with_reducible refine Below.drew ?_) | (with_reducible refine below_drewN ?_ _) | (with_reducible refine Below.setCell ?_ ?_ _) | go_size))) (flatU_one _) (by unfold maxLen; omega) (by omega) (by first | (simp; done) | (simp; omega)) ?_; intro A4 cap4 w4 hown4 hgrow4; have hb4 : Below w3.heap.size w3 w4 := app_below2 (show Below w3.heap.size w3 (w3.drew.alloc (.cells #[] 36)) from (by repeat' (first | (with_reducible exact Below.refl _ _) | (with_reducible assumption) | (with_reducible refine below_over ?_ _ _) | (with_reducible refine Lw.below_alloc ?_ _) | (with_reducible refine Below.drew ?_) | (with_reducible refine below_drewN ?_ _) | (with_reducible refine Below.setCell ?_ ?_ _) | go_size))) hgrow4 (Nat.le_refl _); (try simp only [Nat.zero_add, List.nil_append] at hown4); (try simp only [Nat.zero_add]))
      | (refine appv_step rfl _ _ 25 rfl w3.heap.size 36 i0 (.agg #[.int .u64 0, .int .i64 0]) 2 16 upds_u hi hz0 hz1 hz2 rfl (by decide) (.slice (some ⟨w3.heap.size, 0, none⟩) 0 0) 0 [] rfl ((own_empty w3.drew _ _ _ (Nat.le_refl _)).alloc _) (fun h => by cases h) (some (ad.add (K * 2))) (N - K) (k0 - K) (flatU ((qs.take N).drop K)) rfl (by simp) HL1.out (hR1.out.up (by repeat' (first | (with_reducible exact Below.refl _ _) | (with_reducible assumption) | (with_reducible refine below_over ?_ _ _) | (with_reducible refine Lw.below_alloc ?_ _) | (with_reducible refine Below.drew ?_) | (with_reducible refine below_drewN ?_ _) | (with_reducible refine Below.setCell ?_ ?_ _) | go_size))) (flatU_one _) (by unfold maxLen; omega) (by omega) (by first | (simp; done) | (simp; omega)) ?_; intro A4 cap4 w4 hown4 hgrow4; have hb4 : Below w3.heap.size w3 w4 := app_below2 (show Below w3.heap.size w3 ((w3.drew.alloc (.cells #[] 36)).alloc (.cells #[.int .i64 0, .int .i64 0, .int .i64 0, .int .i64 0, .int .u64 0, .slice none 0 0] 27)) from (by repeat' (first | (with_reducible exact Below.refl _ _) | (with_reducible assumption) | (with_reducible refine below_over ?_ _ _) | (with_reducible refine Lw.below_alloc ?_ _) | (with_reducible refine Below.drew ?_) | (with_reducible refine below_drewN ?_ _) | (with_reducible refine Below.setCell ?_ ?_ _) | go_size))) hgrow4 (Nat.le_refl _); have hgB : w4.heap[w3.heap.size + 1]? = some (.cells #[.int .i64 0, .int .i64 0, .int .i64 0, .int .i64 0, .int .u64 0, .slice none 0 0] 27 (0, 0)) := (hgrow4.block _ (by simp) (fun e => by injection e with e; simp at e)).trans (by first | exact pc_alloc3 w3 _ _ _ | exact pc_alloc2 (by simp)); have hgb2 : w3.heap.size ≤ w3.heap.size + 1 := (by omega); (try simp only [Nat.zero_add, List.nil_append] at hown4); (try simp only [Nat.zero_add]))
      | (refine appv_step rfl _ _ 25 rfl w3.heap.size 36 i0 (.agg #[.int .u64 0, .int .i64 0]) 2 16 upds_u hi hz0 hz1 hz2 rfl (by decide) (.slice (some ⟨w3.heap.size + 1, 0, none⟩) 0 0) 0 [] rfl (own_empty2 w3.drew (.cells #[.int .i64 0, .int .i64 0, .int .i64 0, .int .i64 0, .int .u64 0, .slice none 0 0] 27) _ _ _ (Nat.le_refl _)) (fun h => by cases h) (some (ad.add (K * 2))) (N - K) (k0 - K) (flatU ((qs.take N).drop K)) rfl (by simp) HL1.out (hR1.out.up (by repeat' (first | (with_reducible exact Below.refl _ _) | (with_reducible assumption) | (with_reducible refine below_over ?_ _ _) | (with_reducible refine Lw.below_alloc ?_ _) | (with_reducible refine Below.drew ?_) | (with_reducible refine below_drewN ?_ _) | (with_reducible refine Below.setCell ?_ ?_ _) | go_size))) (flatU_one _) (by unfold maxLen; omega) (by omega) (by first | (simp; done) | (simp; omega)) ?_; intro A4 cap4 w4 hown4 hgrow4; have hb4 : Below w3.heap.size w3 w4 := app_below2 (show Below w3.heap.size w3 ((w3.drew.alloc (.cells #[.int .i64 0, .int .i64 0, .int .i64 0, .int .i64 0, .int .u64 0, .slice none 0 0] 27)).alloc (.cells #[] 36)) from (by repeat' (first | (with_reducible exact Below.refl _ _) | (with_reducible assumption) | (with_reducible refine below_over ?_ _ _) | (with_reducible refine Lw.below_alloc ?_ _) | (with_reducible refine Below.drew ?_) | (with_reducible refine below_drewN ?_ _) | (with_reducible refine Below.setCell ?_ ?_ _) | go_size))) hgrow4 (Nat.le_succ _); have hgB : w4.heap[w3.heap.size]? = some (.cells #[.int .i64 0, .int .i64 0, .int .i64 0, .int .i64 0, .int .u64 0, .slice none 0 0] 27 (0, 0)) := (hgrow4.block _ (by simp) (fun e => by injection e with e; simp at e)).trans (by first | exact pc_alloc3 w3 _ _ _ | exact pc_alloc2 (by simp)); have hgb2 : w3.heap.size ≤ w3.heap.size := (by omega); (try simp only [Nat.zero_add, List.nil_append] at hown4); (try simp only [Nat.zero_add]))
      | (refine appv_step rfl _ _ 25 rfl w3.heap.size 36 i0 (.agg #[.int .u64 0, .int .i64 0]) 2 16 upds_u hi hz0 hz1 hz2 rfl (by decide) (.slice (some A4) (N - K) cap4) (N - K) (flatU ((qs.take N).drop K)) rfl (hown4.alloc _) (fun h => by cases h) (some ad) K k0 (flatU (qs.take K)) rfl (by simp) HL2.out (hR2.out.up (by have hb4w : Below w.heap.size w w4 := below_call hbw3 hb4 (Nat.le_refl _); repeat' (first | (with_reducible exact Below.refl _ _) | (with_reducible assumption) | (with_reducible refine below_over ?_ _ _) | (with_reducible refine Lw.below_alloc ?_ _) | (with_reducible refine Below.drew ?_) | (with_reducible refine below_drewN ?_ _) | (with_reducible refine Below.setCell ?_ ?_ _) | go_size))) (flatU_one _) (by unfold maxLen; omega) (by omega) (Lw.below_alloc hb4 (.cells #[.int .i64 0, .int .i64 0, .int .i64 0, .int .i64 0, .int .u64 0, .slice none 0 0] 27)).size ?_; intro A5 cap5 w5 hown5 hgrow5; have hb5 : Below w3.heap.size w3 w5 := (Lw.below_alloc hb4 (.cells #[.int .i64 0, .int .i64 0, .int .i64 0, .int .i64 0, .int .u64 0, .slice none 0 0] 27)).grown hgrow5 (Lw.below_alloc hb4 (.cells #[.int .i64 0, .int .i64 0, .int .i64 0, .int .i64 0, .int .u64 0, .slice none 0 0] 27)).size (fun k hk => own_ge hown4 k hk); rw [← HFL.out, Nat.sub_add_cancel hK] at hown5; have hg9 : w5.heap[w4.heap.size]? = some (.cells #[.int .i64 0, .int .i64 0, .int .i64 0, .int .i64 0, .int .u64 0, .slice none 0 0] 27 (0, 0)) := (hgrow5.block _ (by simp) (fun e => by have h9 := own_lt hown4 e.symm; omega)).trans (heap_alloc_new _ _); have hgp : w3.heap.size ≤ w4.heap.size := hb4.size; have HE := Lib.hid (ord_end HV3.out hb5 hown5 HPL.out HPB.out hg9 hgp); have z0 := boxs_frozen HE.out.i0 0; have z1 := boxs_frozen HE.out.i0 1; have z2 := boxs_frozen HE.out.i0 2; have z3 := boxs_frozen HE.out.i0 3; have z4 := boxs_frozen HE.out.i0 4; have z5 := boxs_frozen HE.out.i0 5; obtain ⟨y0, y1, y2, y3, y4, y5⟩ := box6 HE.out.i0)
      | (refine appv_step rfl _ _ 25 rfl w3.heap.size 36 i0 (.agg #[.int .u64 0, .int .i64 0]) 2 16 upds_u hi hz0 hz1 hz2 rfl (by decide) (.slice (some A4) (N - K) cap4) (N - K) (flatU ((qs.take N).drop K)) rfl (hown4) (fun h => by cases h) (some ad) K k0 (flatU (qs.take K)) rfl (by simp) HL2.out (hR2.out.up (by have hb4w : Below w.heap.size w w4 := below_call hbw3 hb4 (Nat.le_refl _); repeat' (first | (with_reducible exact Below.refl _ _) | (with_reducible assumption) | (with_reducible refine below_over ?_ _ _) | (with_reducible refine Lw.below_alloc ?_ _) | (with_reducible refine Below.drew ?_) | (with_reducible refine below_drewN ?_ _) | (with_reducible refine Below.setCell ?_ ?_ _) | go_size))) (flatU_one _) (by unfold maxLen; omega) (by omega) hb4.size ?_; intro A5 cap5 w5 hown5 hgrow5; have hb5 : Below w3.heap.size w3 w5 := hb4.grown hgrow5 hb4.size (fun k hk => own_ge hown4 k hk); rw [← HFL.out, Nat.sub_add_cancel hK] at hown5; have hg9 := (hgrow5.block _ (hp_lt2 hgB) (fun e => own_type hown4 e.symm hgB (by decide))).trans hgB; have HE := Lib.hid (ord_end HV3.out hb5 hown5 HPL.out HPB.out hg9 hgb2); have z0 := boxs_frozen HE.out.i0 0; have z1 := boxs_frozen HE.out.i0 1; have z2 := boxs_frozen HE.out.i0 2; have z3 := boxs_frozen HE.out.i0 3; have z4 := boxs_frozen HE.out.i0 4; have z5 := boxs_frozen HE.out.i0 5; obtain ⟨y0, y1, y2, y3, y4, y5⟩ := box6 HE.out.i0)
      | (refine appv_step rfl _ _ 25 rfl w3.heap.size 36 i0 (.agg #[.int .u64 0, .int .i64 0]) 2 16 upds_u hi hz0 hz1 hz2 rfl (by decide) (.slice (some A4) (N - K) cap4) (N - K) (flatU ((qs.take N).drop K)) rfl (hown4) (fun h => by cases h) (some ad) K k0 (flatU (qs.take K)) rfl (by simp) HL2.out (hR2.out.up (by have hb4w : Below w.heap.size w w4 := below_call hbw3 hb4 (Nat.le_refl _); repeat' (first | (with_reducible exact Below.refl _ _) | (with_reducible assumption) | (with_reducible refine below_over ?_ _ _) | (with_reducible refine Lw.below_alloc ?_ _) | (with_reducible refine Below.drew ?_) | (with_reducible refine below_drewN ?_ _) | (with_reducible refine Below.setCell ?_ ?_ _) | go_size))) (flatU_one _) (by unfold maxLen; omega) (by omega) hb4.size ?_; intro A5 cap5 w5 hown5 hgrow5; have hb5 : Below w3.heap.size w3 w5 := hb4.grown hgrow5 hb4.size (fun k hk => own_ge hown4 k hk); rw [← HFL.out, Nat.sub_add_cancel hK] at hown5; have HE := Lib.hid (ord_end2 HV3.out hb5 hown5 HPL.out HPB.out)))
    all_goals go_wp2
    all_goals go_meet
    all_goals refine ⟨_, some A5, cap5, rfl, ?_⟩
    all_goals first
      | with_reducible exact turn6 HE.out _ _ _ _ _ _
      | with_reducible exact push_box HE.out _ _
  case rest =>
    obtain ⟨gp, A5, cap5, rfl, hv⟩ := hcut
    have HV6 := Lib.hid hv
    clear hv hs0 hs1 hs2 hs3 hs4 hs5 hs6 hcm hnc hN6 hNn hz0 hz1 hz2 x0 x1 x2 x3 x4 x5 hbw3
    obtain ⟨y0, y1, y2, y3, y4, y5⟩ := box6 HV6.out.i0
    go_wp2_with ((go_at_call 10; (with_reducible refine (FD2.out A5 N cap5 _ (upI HV6.out.i1)).mono ?_); rintro e w7 ⟨q, G, rfl, hv⟩; have HV7 := Lib.hid (HV6.out.join hv); simp only [List.cons_append, List.nil_append] at HV7; clear hv))
    obtain ⟨gd, hgd⟩ : ∃ g, w7.heap.size = g := ⟨_, rfl⟩
    have hv8 := HV7.out.push (boxT w7.heap.size 24 #[.int .i64 c.bt, .int .i64 c.rw, .int .i64 c.wd, .int .i64 c.md, .int .u64 c.sd]) (Lw.below_alloc (Below.refl _ _) _) (heap_alloc_new w7 _) (fun k hk => Nat.le_of_eq hk.symm)
    rw [hgd] at hv8 ⊢
    have HV8 : Hid (Have w (w7.alloc (.cells #[.int .i64 c.bt, .int .i64 c.rw, .int .i64 c.wd, .int .i64 c.md, .int .u64 c.sd] 24)) [stT q G c Z, boxT gc 24 #[.int .i64 c.bt, .int .i64 c.rw, .int .i64 c.wd, .int .i64 c.md, .int .u64 c.sd], stT p F c Z]) := Lib.hid (pick3 hv8)
    obtain ⟨w8, hw8⟩ : ∃ w8, w8 = w7.alloc (.cells #[.int .i64 c.bt, .int .i64 c.rw, .int .i64 c.wd, .int .i64 c.md, .int .u64 c.sd] 24) := ⟨_, rfl⟩
    rw [← hw8] at HV8 ⊢
    clear hv8 hgd hw8 y0 y1 y2 y3 y4 y5 HV6 HV7 HV3 FD2
    go_loopw [15] (fun iv wr => ∃ n : Nat, (n : Int) ≤ c.bt + 1 ∧ iv = .int .i64 n ∧ Have w wr [stT q G c Z, boxT gc 24 #[.int .i64 c.bt, .int .i64 c.rw, .int .i64 c.wd, .int .i64 c.md, .int .u64 c.sd], stT p F c Z]) (fun iv _ => 100 - (intOf iv).toNat)
    case atStart => exact ⟨0, by omega, rfl, HV8.out⟩
    case round =>
      obtain ⟨n, hn, rfl, hv⟩ := hrel
      have HVr := Lib.hid hv
      clear hv
      obtain ⟨e1, e2, e3, e4, e5⟩ := box5 HVr.out.i1
      by_cases hlt : (n : Int) ≤ c.bt
      · obtain ⟨LL, hLL⟩ : ∃ LL, lvFl Z n = LL := ⟨_, rfl⟩
        have hlv := HLV.out n hlt
        rw [hLL] at hlv
        have HL1 := Lib.hid hlv.1
        have HL2 := Lib.hid hlv.2
        have CR := Lib.hid (fun p F w hs => cs_row p F c Z n LL w hs (by omega) hLL hlv.1 hlv.2)
        have hwn1 : IntKind.i64.wrap ((n : Int) + 1) = ((n + 1 : Nat) : Int) := nx_w1 (by omega)
        have hwn2 : wrap64 ((n : Int) + 1) = ((n + 1 : Nat) : Int) := nx_w2 (by omega)
        have hdl : decide (LL = LL) = true := decide_eq_true rfl
        clear hlv hLL
        go_wp2_with (first
          | (go_at_call 15; (with_reducible refine (rsame_any _ _ _ _ _ _ LL LL _ (rdI HVb.out.i1) (rdI HVb.out.i0) rfl rfl (le_trans64 HL2.out) (le_trans64 HL2.out)).mono ?_); rintro e wc ⟨rfl, hb⟩; have HVc := Lib.hid (HVb.out.up hb); clear hb)
          | (go_at_call 16; (with_reducible refine (CR.out q G _ (stI HVa.out.i1)).mono ?_); rintro e wb ⟨Ab, cb, rfl, h1, h2, hb⟩; have HVb := Lib.hid (HVa.out.push (rdT Ab LL) hb h1 h2); clear h1 h2 hb)
          | (go_at_call 16; (with_reducible refine (CR.out p F _ (stI HVr.out.i2)).mono ?_); rintro e wa ⟨Aa, ca, rfl, h1, h2, hb⟩; have HVa := Lib.hid (HVr.out.push (rdT Aa LL) hb h1 h2); clear h1 h2 hb))
        go_roundw
        case rel => exact ⟨n + 1, by omega, by go_num, HVc.out.drop_0.drop_0⟩
        case measure => simp [intOf]; omega
      · go_wp2_with (first
          | (go_at_call 18; (with_reducible refine (CTO.out q G _ (stI HVa.out.i0)).mono ?_); rintro e wb ⟨rfl, hb⟩; have HVb := Lib.hid (HVa.out.up hb); clear hb)
          | (go_at_call 18; (with_reducible refine (CTO.out p F _ (stI HVr.out.i2)).mono ?_); rintro e wa ⟨rfl, hb⟩; have HVa := Lib.hid (HVr.out.up hb); clear hb))
        go_ret
        exact ⟨ret_bs (by first | rfl | (simp [*]; done)), HVb.out.below⟩

set_option maxRecDepth 100000 in
set_option maxHeartbeats 16000000 in
theorem ord_e_false (x : Cfg) (A : Option Addr) (n0 k0 : Nat) (qs : Ups) (at' : Int) (w : World) (hx : x.Ok) (hq : UpdV w A n0 k0 qs) (N K : Nat) (hN : N = min 60 n0) (X : Int) (a1 : bits .and .i64 at' 65535 = X) (b1 : 0 ≤ X) (dd : Int.tmod X ((N : Int) + 1) = (K : Int)) (hK : K ≤ N) (ad : Addr) (hA : A = some ad) (hck : k0 = K) :
    Calls Try.prog 6 #[.agg #[.int .i64 x.bt, .int .i64 x.rw, .int .i64 x.wd, .int .i64 x.md, .int .u64 x.sd, .slice A n0 k0], .int .i64 at', .bool false] w fun e w' => e = .returned (.bool true) ∧ Below w.heap.size w w' := by
  obtain ⟨c, hC⟩ : ∃ c, { anyC x 10 9 with md := 1 } = c := ⟨_, rfl⟩
  have hr0 := any_right x 10 9 (by omega) (by omega) (by omega) (by omega)
  have hr : IsRight c := by rw [← hC]; exact ⟨hr0.1, hr0.2.1, hr0.2.2.1, hr0.2.2.2.1, hr0.2.2.2.2.1, hr0.2.2.2.2.2.1, (by show (1 : Int) ≤ 1; omega), (by show (1 : Int) ≤ 3; omega)⟩
  have hmd : c.md = 1 := by rw [← hC]
  have hbt := hr.1
  have hb5 := hr.2.1
  have hkeys : 1 ≤ keys c 0 := keys_pos.2 ⟨hr, by omega, by omega⟩
  have FD := Lib.hid (fun w hq => fed_m x A n0 k0 qs 1 (by omega) (by omega) 0 60 0 60 c w hx hq rfl rfl (by omega) (by omega) hC)
  have hnl := hq.len
  obtain ⟨ps, hps⟩ : ∃ ps, (qs.take N).drop K ++ qs.take K = ps := ⟨_, rfl⟩
  have FD2 := Lib.hid (fun B m q w hq => fed_m x B m q ps 1 (by omega) (by omega) 0 60 0 60 c w hx hq rfl rfl (by omega) (by omega) hC)
  have hin := upsR_in hkeys qs 0 60
  have htn := upsR_turn c 0 qs (N := N) (K := K) (by rw [hN, hnl]) hK
  rw [hps] at htn
  obtain ⟨us, hus⟩ : ∃ us, upsR c 0 qs 0 60 = us := ⟨_, rfl⟩
  rw [hus] at FD htn hin
  have hsw : stsOf c (upsR c 0 ps 0 60) = stsOf c us := by
    have h1 := stsOf_swap hr (by omega) (us := us.take K) (vs := us.drop K) (by rw [List.take_append_drop]; exact hin)
    rw [List.take_append_drop] at h1
    rw [htn, h1]
  rw [hsw] at FD2
  have HLV := Lib.hid (fun (n : Nat) (hn : (n : Int) ≤ c.bt) => lv_size hr hin (n := n) hn)
  obtain ⟨Z, hZ⟩ : ∃ Z, stsOf c us = Z := ⟨_, rfl⟩
  rw [hZ] at FD FD2 HLV
  have CTO := Lib.hid (fun p F w hs => cs_total p F c Z w hs)
  obtain ⟨TV, hTV⟩ : ∃ v, spV c Z c.bt 0 = v := ⟨_, rfl⟩
  rw [hTV] at CTO
  have hpl : ps.length = N := by rw [← hps, List.length_append, List.length_drop, List.length_take, List.length_take]; omega
  have hpb : ∀ u ∈ ps, (0 ≤ u.1 ∧ u.1 ≤ 18446744073709551615) ∧ (-9223372036854775808 ≤ u.2 ∧ u.2 ≤ 9223372036854775807) := by
    intro u hu
    rw [← hps] at hu
    have hm : u ∈ qs := by
      rcases List.mem_append.1 hu with g | g
      · exact List.mem_of_mem_take (List.mem_of_mem_drop g)
      · exact List.mem_of_mem_take g
    obtain ⟨i, hi⟩ := List.getElem?_of_mem hm
    obtain ⟨_, _, _, _, _, _, _, g1, g2⟩ := hq.at hi
    exact ⟨g1, g2⟩
  have HPB := Lib.hid hpb
  have hfl : flatU ps = flatU ((qs.take N).drop K) ++ flatU (qs.take K) := by rw [← hps]; unfold flatU; rw [List.flatMap_append]
  have hfc1 := (flatU_cut (qs.take N) K).2
  have hfc2 := (flatU_cut qs K).1
  have hfc3 := (flatU_cut qs N).1
  have HQ := Lib.hid hq
  have hnc := hq.nc
  have hcm := hq.cm
  unfold maxLen at hcm
  obtain ⟨i0, hi, hz0, hz1, hz2⟩ := info_parts upd_info
  have hN6 : N ≤ 60 := by omega
  have hNn : N ≤ n0 := by omega
  have hmin : (if (60 : Int) < n0 then (60 : Int) else (n0 : Int)) = N := n1_min hN
  have hw1 : IntKind.i64.wrap ((N : Int) + 1) = (N : Int) + 1 := n1_w1 hN6
  have hw2 : wrap64 ((N : Int) + 1) = (N : Int) + 1 := n1_w2 hN6
  have hbn : ¬ (N : Int) + 1 = 0 := n1_ne N
  have HBX : Hid (Have w (w.alloc (.cells #[.int .i64 x.bt, .int .i64 x.rw, .int .i64 x.wd, .int .i64 x.md, .int .u64 x.sd, .slice A n0 k0] 27)) [boxT w.heap.size 27 #[.int .i64 x.bt, .int .i64 x.rw, .int .i64 x.wd, .int .i64 x.md, .int .u64 x.sd, .slice A n0 k0]]) := Lib.hid (box_new w _ _)
  subst hA
  have HIF : Hid ((if k0 = K then (some ad) else some (ad.add (K * 2))) = some ad) := Lib.hid (if_pos hck)
  have HZ8 : Hid (k0 - K = 0) := Lib.hid (e_z1 hck)
  have HZ9 : Hid (N - K = 0) := Lib.hid (e_z2 hck hNn hnc)
  have hplk : ps.length = K := e_z3 hck hNn hnc hK hpl
  have HPL := Lib.hid hplk
  have HFL : Hid (flatU ps = [] ++ flatU (qs.take K)) := Lib.hid (by rw [hfl, e_z4 hck hNn hnc]; rfl)
  have HCK := Lib.hid hck
  clear hck hplk
  have HL1 : Hid ((flatU ((qs.take N).drop K)).length = (N - K) * 2) := Lib.hid (fl_len1 hnl hNn)
  have HL2 : Hid ((flatU (qs.take K)).length = K * 2) := Lib.hid (fl_len2 hnl hNn hK)
  have hR2 : Hid (RdV w (some ad) (flatU (qs.take K))) := Lib.hid (by rw [hfc2]; exact (upd_rdv hq).take (K * 2))
  clear hr hr0 hC hmd hkeys htn hin hus hsw hZ hTV hpl hpb hps hfl hfc1 hfc2 hfc3 hq hx b1 hnl hN
  go_enter Try.func6, Try.ntmps6
  go_upto_region 8 with (first
    | (go_at_call 10; (with_reducible refine (FD.out _ (HQ.out.up HV1.out.below)).mono ?_); rintro e w2 ⟨p, F, rfl, hv⟩; have HV2 := Lib.hid (HV1.out.join hv); simp only [List.cons_append, List.nil_append] at HV2; clear hv; have HV3 := Lib.hid (HV2.out.push (boxT w2.heap.size 24 #[.int .i64 c.bt, .int .i64 c.rw, .int .i64 c.wd, .int .i64 c.md, .int .u64 c.sd]) (Lw.below_alloc (Below.refl _ _) _) (heap_alloc_new w2 _) (fun k hk => Nat.le_of_eq hk.symm)); clear x0 x1 x2 x3 x4 x5; obtain ⟨x0, x1, x2, x3, x4, x5⟩ := box6 HV3.out.i2)
    | (go_at_call 9; (with_reducible refine (shown_any _).mono ?_); rintro e w1 ⟨rfl, hb⟩; have HV1 := Lib.hid (HBX.out.up hb); clear hb; obtain ⟨x0, x1, x2, x3, x4, x5⟩ := box6 HV1.out.i0))
  obtain ⟨gc, hgc⟩ : ∃ g, w2.heap.size = g := ⟨_, rfl⟩
  rw [hgc] at HV3 ⊢
  obtain ⟨w3, hw3⟩ : ∃ w3, w3 = w2.alloc (.cells #[.int .i64 c.bt, .int .i64 c.rw, .int .i64 c.wd, .int .i64 c.md, .int .u64 c.sd] 24) := ⟨_, rfl⟩
  rw [← hw3] at HV3 x0 x1 x2 x3 x4 x5 ⊢
  clear hw3 hgc HV2 HV1 HBX FD hw1 hw2 hbn hmin a1 dd
  have hbw3 := HV3.out.below
  skip
  have hs0 : (0 : Int) ≤ (K : Int) := by omega
  have hs1 : (K : Int) ≤ (N : Int) := by omega
  have hs2 : (N : Int) ≤ (k0 : Int) := by omega
  have hs3 : (K : Int) ≤ (k0 : Int) := by omega
  have hs4 : ¬ (N : Int) < (K : Int) := by omega
  have hs5 : ¬ (k0 : Int) < (N : Int) := by omega
  have hs6 : ¬ (k0 : Int) < (K : Int) := by omega
  go_cut [12] (fun s12 wx => ∃ (gp : Nat) (A5 : Option Addr) (cap5 : Nat), s12 = .pointer (some ⟨gp, 0, none⟩) ∧ Have w wx [boxT gp 27 #[.int .i64 x.bt, .int .i64 x.rw, .int .i64 x.wd, .int .i64 x.md, .int .u64 x.sd, .slice A5 K cap5], upT A5 K cap5 ps, boxT gc 24 #[.int .i64 c.bt, .int .i64 c.rw, .int .i64 c.wd, .int .i64 c.md, .int .u64 c.sd], stT p F c Z, boxT w.heap.size 27 #[.int .i64 x.bt, .int .i64 x.rw, .int .i64 x.wd, .int .i64 x.md, .int .u64 x.sd, .slice (some ad) n0 k0]])
  case first =>
    have hif := HIF.out
    have hz8 := HZ8.out
    have hz9 := HZ9.out
    go_region_held3 (fun w' => w'.cell? ⟨w.heap.size, 0, none⟩ = some (.int .i64 x.bt) ∧ w'.cell? ⟨w.heap.size, 1, none⟩ = some (.int .i64 x.rw) ∧ w'.cell? ⟨w.heap.size, 2, none⟩ = some (.int .i64 x.wd) ∧ w'.cell? ⟨w.heap.size, 3, none⟩ = some (.int .i64 x.md) ∧ w'.cell? ⟨w.heap.size, 4, none⟩ = some (.int .u64 x.sd) ∧ w'.cell? ⟨w.heap.size, 5, none⟩ = some (.slice (some ad) n0 k0)) (first | (refine ⟨?_, ?_, ?_, ?_, ?_, ?_⟩ <;> (first | (with_reducible assumption) | (with_reducible refine cell_up x0 ?_) | (with_reducible refine cell_up x1 ?_) | (with_reducible refine cell_up x2 ?_) | (with_reducible refine cell_up x3 ?_) | (with_reducible refine cell_up x4 ?_) | (with_reducible refine cell_up x5 ?_)) <;> (repeat' (first | (with_reducible exact Below.refl _ _) | (with_reducible assumption) | (with_reducible refine below_over ?_ _ _) | (with_reducible refine Lw.below_alloc ?_ _) | (with_reducible refine Below.drew ?_) | (with_reducible refine below_drewN ?_ _) | (with_reducible refine Below.setCell ?_ ?_ _) | go_size)))) (first
      | (refine appv_step rfl _ _ 25 rfl w3.heap.size 36 i0 (.agg #[.int .u64 0, .int .i64 0]) 2 16 upds_u hi hz0 hz1 hz2 rfl (by decide) (.slice (some ⟨w3.heap.size, 0, none⟩) 0 0) 0 [] rfl (own_empty w3.drew _ _ _ (Nat.le_refl _)) (fun h => by cases h) (some ad) 0 0 [] rfl (by simp) (by simp) (RdV.nil _ _) (by simp) (by unfold maxLen; omega) (by omega) (by first | (simp; done) | (simp; omega)) ?_; intro A4 cap4 w4 hown4 hgrow4; have hb4 : Below w3.heap.size w3 w4 := app_below2 (show Below w3.heap.size w3 (w3.drew.alloc (.cells #[] 36)) from (by repeat' (first | (with_reducible exact Below.refl _ _) | (with_reducible assumption) | (with_reducible refine below_over ?_ _ _) | (with_reducible refine Lw.below_alloc ?_ _) | (with_reducible refine Below.drew ?_) | (with_reducible refine below_drewN ?_ _) | (with_reducible refine Below.setCell ?_ ?_ _) | go_size))) hgrow4 (Nat.le_refl _); (try simp only [Nat.zero_add, List.nil_append] at hown4); (try simp only [Nat.zero_add]))
      | (refine appv_step rfl _ _ 25 rfl w3.heap.size 36 i0 (.agg #[.int .u64 0, .int .i64 0]) 2 16 upds_u hi hz0 hz1 hz2 rfl (by decide) (.slice (some ⟨w3.heap.size, 0, none⟩) 0 0) 0 [] rfl ((own_empty w3.drew _ _ _ (Nat.le_refl _)).alloc _) (fun h => by cases h) (some ad) 0 0 [] rfl (by simp) (by simp) (RdV.nil _ _) (by simp) (by unfold maxLen; omega) (by omega) (by first | (simp; done) | (simp; omega)) ?_; intro A4 cap4 w4 hown4 hgrow4; have hb4 : Below w3.heap.size w3 w4 := app_below2 (show Below w3.heap.size w3 ((w3.drew.alloc (.cells #[] 36)).alloc (.cells #[.int .i64 0, .int .i64 0, .int .i64 0, .int .i64 0, .int .u64 0, .slice none 0 0] 27)) from (by repeat' (first | (with_reducible exact Below.refl _ _) | (with_reducible assumption) | (with_reducible refine below_over ?_ _ _) | (with_reducible refine Lw.below_alloc ?_ _) | (with_reducible refine Below.drew ?_) | (with_reducible refine below_drewN ?_ _) | (with_reducible refine Below.setCell ?_ ?_ _) | go_size))) hgrow4 (Nat.le_refl _); have hgB : w4.heap[w3.heap.size + 1]? = some (.cells #[.int .i64 0, .int .i64 0, .int .i64 0, .int .i64 0, .int .u64 0, .slice none 0 0] 27 (0, 0)) := (hgrow4.block _ (by simp) (fun e => by injection e with e; simp at e)).trans (by first | exact pc_alloc3 w3 _ _ _ | exact pc_alloc2 (by simp)); have hgb2 : w3.heap.size ≤ w3.heap.size + 1 := (by omega); (try simp only [Nat.zero_add, List.nil_append] at hown4); (try simp only [Nat.zero_add]))
      | (refine appv_step rfl _ _ 25 rfl w3.heap.size 36 i0 (.agg #[.int .u64 0, .int .i64 0]) 2 16 upds_u hi hz0 hz1 hz2 rfl (by decide) (.slice (some ⟨w3.heap.size + 1, 0, none⟩) 0 0) 0 [] rfl (own_empty2 w3.drew (.cells #[.int .i64 0, .int .i64 0, .int .i64 0, .int .i64 0, .int .u64 0, .slice none 0 0] 27) _ _ _ (Nat.le_refl _)) (fun h => by cases h) (some ad) 0 0 [] rfl (by simp) (by simp) (RdV.nil _ _) (by simp) (by unfold maxLen; omega) (by omega) (by first | (simp; done) | (simp; omega)) ?_; intro A4 cap4 w4 hown4 hgrow4; have hb4 : Below w3.heap.size w3 w4 := app_below2 (show Below w3.heap.size w3 ((w3.drew.alloc (.cells #[.int .i64 0, .int .i64 0, .int .i64 0, .int .i64 0, .int .u64 0, .slice none 0 0] 27)).alloc (.cells #[] 36)) from (by repeat' (first | (with_reducible exact Below.refl _ _) | (with_reducible assumption) | (with_reducible refine below_over ?_ _ _) | (with_reducible refine Lw.below_alloc ?_ _) | (with_reducible refine Below.drew ?_) | (with_reducible refine below_drewN ?_ _) | (with_reducible refine Below.setCell ?_ ?_ _) | go_size))) hgrow4 (Nat.le_succ _); have hgB : w4.heap[w3.heap.size]? = some (.cells #[.int .i64 0, .int .i64 0, .int .i64 0, .int .i64 0, .int .u64 0, .slice none 0 0] 27 (0, 0)) := (hgrow4.block _ (by simp) (fun e => by injection e with e; simp at e)).trans (by first | exact pc_alloc3 w3 _ _ _ | exact pc_alloc2 (by simp)); have hgb2 : w3.heap.size ≤ w3.heap.size := (by omega); (try simp only [Nat.zero_add, List.nil_append] at hown4); (try simp only [Nat.zero_add]))
      | (refine appv_step rfl _ _ 25 rfl w3.heap.size 36 i0 (.agg #[.int .u64 0, .int .i64 0]) 2 16 upds_u hi hz0 hz1 hz2 rfl (by decide) (.slice (some A4) 0 cap4) 0 [] rfl (hown4.alloc _) (fun h => by cases h) (some ad) K k0 (flatU (qs.take K)) rfl (by simp) HL2.out (hR2.out.up (by have hb4w : Below w.heap.size w w4 := below_call hbw3 hb4 (Nat.le_refl _); repeat' (first | (with_reducible exact Below.refl _ _) | (with_reducible assumption) | (with_reducible refine below_over ?_ _ _) | (with_reducible refine Lw.below_alloc ?_ _) | (with_reducible refine Below.drew ?_) | (with_reducible refine below_drewN ?_ _) | (with_reducible refine Below.setCell ?_ ?_ _) | go_size))) (flatU_one _) (by unfold maxLen; omega) (by omega) (Lw.below_alloc hb4 (.cells #[.int .i64 0, .int .i64 0, .int .i64 0, .int .i64 0, .int .u64 0, .slice none 0 0] 27)).size ?_; intro A5 cap5 w5 hown5 hgrow5; have hb5 : Below w3.heap.size w3 w5 := (Lw.below_alloc hb4 (.cells #[.int .i64 0, .int .i64 0, .int .i64 0, .int .i64 0, .int .u64 0, .slice none 0 0] 27)).grown hgrow5 (Lw.below_alloc hb4 (.cells #[.int .i64 0, .int .i64 0, .int .i64 0, .int .i64 0, .int .u64 0, .slice none 0 0] 27)).size (fun k hk => own_ge hown4 k hk); rw [← HFL.out, Nat.zero_add] at hown5; have hg9 : w5.heap[w4.heap.size]? = some (.cells #[.int .i64 0, .int .i64 0, .int .i64 0, .int .i64 0, .int .u64 0, .slice none 0 0] 27 (0, 0)) := (hgrow5.block _ (by simp) (fun e => by have h9 := own_lt hown4 e.symm; omega)).trans (heap_alloc_new _ _); have hgp : w3.heap.size ≤ w4.heap.size := hb4.size; have HE := Lib.hid (ord_end HV3.out hb5 hown5 HPL.out HPB.out hg9 hgp); have z0 := boxs_frozen HE.out.i0 0; have z1 := boxs_frozen HE.out.i0 1; have z2 := boxs_frozen HE.out.i0 2; have z3 := boxs_frozen HE.out.i0 3; have z4 := boxs_frozen HE.out.i0 4; have z5 := boxs_frozen HE.out.i0 5; obtain ⟨y0, y1, y2, y3, y4, y5⟩ := box6 HE.out.i0)
      | (refine appv_step rfl _ _ 25 rfl w3.heap.size 36 i0 (.agg #[.int .u64 0, .int .i64 0]) 2 16 upds_u hi hz0 hz1 hz2 rfl (by decide) (.slice (some A4) 0 cap4) 0 [] rfl (hown4) (fun h => by cases h) (some ad) K k0 (flatU (qs.take K)) rfl (by simp) HL2.out (hR2.out.up (by have hb4w : Below w.heap.size w w4 := below_call hbw3 hb4 (Nat.le_refl _); repeat' (first | (with_reducible exact Below.refl _ _) | (with_reducible assumption) | (with_reducible refine below_over ?_ _ _) | (with_reducible refine Lw.below_alloc ?_ _) | (with_reducible refine Below.drew ?_) | (with_reducible refine below_drewN ?_ _) | (with_reducible refine Below.setCell ?_ ?_ _) | go_size))) (flatU_one _) (by unfold maxLen; omega) (by omega) hb4.size ?_; intro A5 cap5 w5 hown5 hgrow5; have hb5 : Below w3.heap.size w3 w5 := hb4.grown hgrow5 hb4.size (fun k hk => own_ge hown4 k hk); rw [← HFL.out, Nat.zero_add] at hown5; have hg9 := (hgrow5.block _ (hp_lt2 hgB) (fun e => own_type hown4 e.symm hgB (by decide))).trans hgB; have HE := Lib.hid (ord_end HV3.out hb5 hown5 HPL.out HPB.out hg9 hgb2); have z0 := boxs_frozen HE.out.i0 0; have z1 := boxs_frozen HE.out.i0 1; have z2 := boxs_frozen HE.out.i0 2; have z3 := boxs_frozen HE.out.i0 3; have z4 := boxs_frozen HE.out.i0 4; have z5 := boxs_frozen HE.out.i0 5; obtain ⟨y0, y1, y2, y3, y4, y5⟩ := box6 HE.out.i0)
      | (refine appv_step rfl _ _ 25 rfl w3.heap.size 36 i0 (.agg #[.int .u64 0, .int .i64 0]) 2 16 upds_u hi hz0 hz1 hz2 rfl (by decide) (.slice (some A4) 0 cap4) 0 [] rfl (hown4) (fun h => by cases h) (some ad) K k0 (flatU (qs.take K)) rfl (by simp) HL2.out (hR2.out.up (by have hb4w : Below w.heap.size w w4 := below_call hbw3 hb4 (Nat.le_refl _); repeat' (first | (with_reducible exact Below.refl _ _) | (with_reducible assumption) | (with_reducible refine below_over ?_ _ _) | (with_reducible refine Lw.below_alloc ?_ _) | (with_reducible refine Below.drew ?_) | (with_reducible refine below_drewN ?_ _) | (with_reducible refine Below.setCell ?_ ?_ _) | go_size))) (flatU_one _) (by unfold maxLen; omega) (by omega) hb4.size ?_; intro A5 cap5 w5 hown5 hgrow5; have hb5 : Below w3.heap.size w3 w5 := hb4.grown hgrow5 hb4.size (fun k hk => own_ge hown4 k hk); rw [← HFL.out, Nat.zero_add] at hown5; have HE := Lib.hid (ord_end2 HV3.out hb5 hown5 HPL.out HPB.out)))
    all_goals go_wp2
    all_goals go_meet
    all_goals refine ⟨_, some A5, cap5, rfl, ?_⟩
    all_goals first
      | with_reducible exact turn6 HE.out _ _ _ _ _ _
      | with_reducible exact push_box HE.out _ _
  case rest =>
    obtain ⟨gp, A5, cap5, rfl, hv⟩ := hcut
    have HV6 := Lib.hid hv
    clear hv hs0 hs1 hs2 hs3 hs4 hs5 hs6 hcm hnc hN6 hNn hz0 hz1 hz2 x0 x1 x2 x3 x4 x5 hbw3
    obtain ⟨y0, y1, y2, y3, y4, y5⟩ := box6 HV6.out.i0
    go_wp2_with ((go_at_call 10; (with_reducible refine (FD2.out A5 K cap5 _ (upI HV6.out.i1)).mono ?_); rintro e w7 ⟨q, G, rfl, hv⟩; have HV7 := Lib.hid (HV6.out.join hv); simp only [List.cons_append, List.nil_append] at HV7; clear hv))
    obtain ⟨gd, hgd⟩ : ∃ g, w7.heap.size = g := ⟨_, rfl⟩
    have hv8 := HV7.out.push (boxT w7.heap.size 24 #[.int .i64 c.bt, .int .i64 c.rw, .int .i64 c.wd, .int .i64 c.md, .int .u64 c.sd]) (Lw.below_alloc (Below.refl _ _) _) (heap_alloc_new w7 _) (fun k hk => Nat.le_of_eq hk.symm)
    rw [hgd] at hv8 ⊢
    have HV8 : Hid (Have w (w7.alloc (.cells #[.int .i64 c.bt, .int .i64 c.rw, .int .i64 c.wd, .int .i64 c.md, .int .u64 c.sd] 24)) [stT q G c Z, boxT gc 24 #[.int .i64 c.bt, .int .i64 c.rw, .int .i64 c.wd, .int .i64 c.md, .int .u64 c.sd], stT p F c Z]) := Lib.hid (pick3 hv8)
    obtain ⟨w8, hw8⟩ : ∃ w8, w8 = w7.alloc (.cells #[.int .i64 c.bt, .int .i64 c.rw, .int .i64 c.wd, .int .i64 c.md, .int .u64 c.sd] 24) := ⟨_, rfl⟩
    rw [← hw8] at HV8 ⊢
    clear hv8 hgd hw8 y0 y1 y2 y3 y4 y5 HV6 HV7 HV3 FD2
    go_loopw [15] (fun iv wr => ∃ n : Nat, (n : Int) ≤ c.bt + 1 ∧ iv = .int .i64 n ∧ Have w wr [stT q G c Z, boxT gc 24 #[.int .i64 c.bt, .int .i64 c.rw, .int .i64 c.wd, .int .i64 c.md, .int .u64 c.sd], stT p F c Z]) (fun iv _ => 100 - (intOf iv).toNat)
    case atStart => exact ⟨0, by omega, rfl, HV8.out⟩
    case round =>
      obtain ⟨n, hn, rfl, hv⟩ := hrel
      have HVr := Lib.hid hv
      clear hv
      obtain ⟨e1, e2, e3, e4, e5⟩ := box5 HVr.out.i1
      by_cases hlt : (n : Int) ≤ c.bt
      · obtain ⟨LL, hLL⟩ : ∃ LL, lvFl Z n = LL := ⟨_, rfl⟩
        have hlv := HLV.out n hlt
        rw [hLL] at hlv
        have HL1 := Lib.hid hlv.1
        have HL2 := Lib.hid hlv.2
        have CR := Lib.hid (fun p F w hs => cs_row p F c Z n LL w hs (by omega) hLL hlv.1 hlv.2)
        have hwn1 : IntKind.i64.wrap ((n : Int) + 1) = ((n + 1 : Nat) : Int) := nx_w1 (by omega)
        have hwn2 : wrap64 ((n : Int) + 1) = ((n + 1 : Nat) : Int) := nx_w2 (by omega)
        have hdl : decide (LL = LL) = true := decide_eq_true rfl
        clear hlv hLL
        go_wp2_with (first
          | (go_at_call 15; (with_reducible refine (rsame_any _ _ _ _ _ _ LL LL _ (rdI HVb.out.i1) (rdI HVb.out.i0) rfl rfl (le_trans64 HL2.out) (le_trans64 HL2.out)).mono ?_); rintro e wc ⟨rfl, hb⟩; have HVc := Lib.hid (HVb.out.up hb); clear hb)
          | (go_at_call 16; (with_reducible refine (CR.out q G _ (stI HVa.out.i1)).mono ?_); rintro e wb ⟨Ab, cb, rfl, h1, h2, hb⟩; have HVb := Lib.hid (HVa.out.push (rdT Ab LL) hb h1 h2); clear h1 h2 hb)
          | (go_at_call 16; (with_reducible refine (CR.out p F _ (stI HVr.out.i2)).mono ?_); rintro e wa ⟨Aa, ca, rfl, h1, h2, hb⟩; have HVa := Lib.hid (HVr.out.push (rdT Aa LL) hb h1 h2); clear h1 h2 hb))
        go_roundw
        case rel => exact ⟨n + 1, by omega, by go_num, HVc.out.drop_0.drop_0⟩
        case measure => simp [intOf]; omega
      · go_wp2_with (first
          | (go_at_call 18; (with_reducible refine (CTO.out q G _ (stI HVa.out.i0)).mono ?_); rintro e wb ⟨rfl, hb⟩; have HVb := Lib.hid (HVa.out.up hb); clear hb)
          | (go_at_call 18; (with_reducible refine (CTO.out p F _ (stI HVr.out.i2)).mono ?_); rintro e wa ⟨rfl, hb⟩; have HVa := Lib.hid (HVr.out.up hb); clear hb))
        go_ret
        exact ⟨ret_bs (by first | rfl | (simp [*]; done)), HVb.out.below⟩

set_option maxRecDepth 100000 in
set_option maxHeartbeats 16000000 in
theorem ord_n_false (x : Cfg) (at' : Int) (w : World) (hx : x.Ok) (hq : UpdV w none 0 0 []) (X : Int) (a1 : bits .and .i64 at' 65535 = X) (b1 : 0 ≤ X) (dd : Int.tmod X 1 = 0) :
    Calls Try.prog 6 #[.agg #[.int .i64 x.bt, .int .i64 x.rw, .int .i64 x.wd, .int .i64 x.md, .int .u64 x.sd, .slice none 0 0], .int .i64 at', .bool false] w fun e w' => e = .returned (.bool true) ∧ Below w.heap.size w w' := by
  obtain ⟨c, hC⟩ : ∃ c, { anyC x 10 9 with md := 1 } = c := ⟨_, rfl⟩
  have hr0 := any_right x 10 9 (by omega) (by omega) (by omega) (by omega)
  have hr : IsRight c := by rw [← hC]; exact ⟨hr0.1, hr0.2.1, hr0.2.2.1, hr0.2.2.2.1, hr0.2.2.2.2.1, hr0.2.2.2.2.2.1, (by show (1 : Int) ≤ 1; omega), (by show (1 : Int) ≤ 3; omega)⟩
  have hmd : c.md = 1 := by rw [← hC]
  have hbt := hr.1
  have hb5 := hr.2.1
  have hkeys : 1 ≤ keys c 0 := keys_pos.2 ⟨hr, by omega, by omega⟩
  have FD := Lib.hid (fun w hq => fed_m x none 0 0 [] 1 (by omega) (by omega) 0 60 0 60 c w hx hq rfl rfl (by omega) (by omega) hC)
  have hnl := hq.len
  obtain ⟨ps, hps⟩ : ∃ ps, (([] : Ups).take 0).drop 0 ++ ([] : Ups).take 0 = ps := ⟨_, rfl⟩
  have FD2 := Lib.hid (fun B m q w hq => fed_m x B m q ps 1 (by omega) (by omega) 0 60 0 60 c w hx hq rfl rfl (by omega) (by omega) hC)
  have hin := upsR_in hkeys ([] : Ups) 0 60
  have htn := @upsR_turn c 0 [] 0 0 rfl (Nat.le_refl _)
  rw [hps] at htn
  obtain ⟨us, hus⟩ : ∃ us, upsR c 0 ([] : Ups) 0 60 = us := ⟨_, rfl⟩
  rw [hus] at FD htn hin
  have hsw : stsOf c (upsR c 0 ps 0 60) = stsOf c us := by
    have h1 := stsOf_swap hr (by omega) (us := us.take 0) (vs := us.drop 0) (by rw [List.take_append_drop]; exact hin)
    rw [List.take_append_drop] at h1
    rw [htn, h1]
  rw [hsw] at FD2
  have HLV := Lib.hid (fun (n : Nat) (hn : (n : Int) ≤ c.bt) => lv_size hr hin (n := n) hn)
  obtain ⟨Z, hZ⟩ : ∃ Z, stsOf c us = Z := ⟨_, rfl⟩
  rw [hZ] at FD FD2 HLV
  have CTO := Lib.hid (fun p F w hs => cs_total p F c Z w hs)
  obtain ⟨TV, hTV⟩ : ∃ v, spV c Z c.bt 0 = v := ⟨_, rfl⟩
  rw [hTV] at CTO
  have hpl : ps.length = 0 := by rw [← hps]; rfl
  have hpb : ∀ u ∈ ps, (0 ≤ u.1 ∧ u.1 ≤ 18446744073709551615) ∧ (-9223372036854775808 ≤ u.2 ∧ u.2 ≤ 9223372036854775807) := by
    intro u hu
    rw [← hps] at hu
    have hm : u ∈ ([] : Ups) := by
      rcases List.mem_append.1 hu with g | g
      · exact List.mem_of_mem_take (List.mem_of_mem_drop g)
      · exact List.mem_of_mem_take g
    obtain ⟨i, hi⟩ := List.getElem?_of_mem hm
    obtain ⟨_, _, _, _, _, _, _, g1, g2⟩ := hq.at hi
    exact ⟨g1, g2⟩
  have HPB := Lib.hid hpb
  have hfl : flatU ps = flatU ((([] : Ups).take 0).drop 0) ++ flatU (([] : Ups).take 0) := by rw [← hps]; unfold flatU; rw [List.flatMap_append]
  have hfc1 := (flatU_cut (([] : Ups).take 0) 0).2
  have hfc2 := (flatU_cut ([] : Ups) 0).1
  have hfc3 := (flatU_cut ([] : Ups) 0).1
  have HQ := Lib.hid hq
  have hnc := hq.nc
  have hcm := hq.cm
  unfold maxLen at hcm
  obtain ⟨i0, hi, hz0, hz1, hz2⟩ := info_parts upd_info
  have HBX : Hid (Have w (w.alloc (.cells #[.int .i64 x.bt, .int .i64 x.rw, .int .i64 x.wd, .int .i64 x.md, .int .u64 x.sd, .slice none 0 0] 27)) [boxT w.heap.size 27 #[.int .i64 x.bt, .int .i64 x.rw, .int .i64 x.wd, .int .i64 x.md, .int .u64 x.sd, .slice none 0 0]]) := Lib.hid (box_new w _ _)
  have HPL := Lib.hid hpl
  have HFL : Hid (flatU ps = [] ++ []) := Lib.hid (by rw [hfl]; rfl)
  clear hr hr0 hC hmd hkeys htn hin hus hsw hZ hTV hpl hpb hps hfl hfc1 hfc2 hfc3 hq hx b1 hnl
  go_enter Try.func6, Try.ntmps6
  go_upto_region 8 with (first
    | (go_at_call 10; (with_reducible refine (FD.out _ (HQ.out.up HV1.out.below)).mono ?_); rintro e w2 ⟨p, F, rfl, hv⟩; have HV2 := Lib.hid (HV1.out.join hv); simp only [List.cons_append, List.nil_append] at HV2; clear hv; have HV3 := Lib.hid (HV2.out.push (boxT w2.heap.size 24 #[.int .i64 c.bt, .int .i64 c.rw, .int .i64 c.wd, .int .i64 c.md, .int .u64 c.sd]) (Lw.below_alloc (Below.refl _ _) _) (heap_alloc_new w2 _) (fun k hk => Nat.le_of_eq hk.symm)); clear x0 x1 x2 x3 x4 x5; obtain ⟨x0, x1, x2, x3, x4, x5⟩ := box6 HV3.out.i2)
    | (go_at_call 9; (with_reducible refine (shown_any _).mono ?_); rintro e w1 ⟨rfl, hb⟩; have HV1 := Lib.hid (HBX.out.up hb); clear hb; obtain ⟨x0, x1, x2, x3, x4, x5⟩ := box6 HV1.out.i0))
  obtain ⟨gc, hgc⟩ : ∃ g, w2.heap.size = g := ⟨_, rfl⟩
  rw [hgc] at HV3 ⊢
  obtain ⟨w3, hw3⟩ : ∃ w3, w3 = w2.alloc (.cells #[.int .i64 c.bt, .int .i64 c.rw, .int .i64 c.wd, .int .i64 c.md, .int .u64 c.sd] 24) := ⟨_, rfl⟩
  rw [← hw3] at HV3 x0 x1 x2 x3 x4 x5 ⊢
  clear hw3 hgc HV2 HV1 HBX FD     a1 dd
  have hbw3 := HV3.out.below
  skip
  go_cut [12] (fun s12 wx => ∃ (gp : Nat) (A5 : Option Addr) (cap5 : Nat), s12 = .pointer (some ⟨gp, 0, none⟩) ∧ Have w wx [boxT gp 27 #[.int .i64 x.bt, .int .i64 x.rw, .int .i64 x.wd, .int .i64 x.md, .int .u64 x.sd, .slice A5 0 cap5], upT A5 0 cap5 ps, boxT gc 24 #[.int .i64 c.bt, .int .i64 c.rw, .int .i64 c.wd, .int .i64 c.md, .int .u64 c.sd], stT p F c Z, boxT w.heap.size 27 #[.int .i64 x.bt, .int .i64 x.rw, .int .i64 x.wd, .int .i64 x.md, .int .u64 x.sd, .slice none 0 0]])
  case first =>
    skip
    skip
    skip
    go_region_held3 (fun w' => w'.cell? ⟨w.heap.size, 0, none⟩ = some (.int .i64 x.bt) ∧ w'.cell? ⟨w.heap.size, 1, none⟩ = some (.int .i64 x.rw) ∧ w'.cell? ⟨w.heap.size, 2, none⟩ = some (.int .i64 x.wd) ∧ w'.cell? ⟨w.heap.size, 3, none⟩ = some (.int .i64 x.md) ∧ w'.cell? ⟨w.heap.size, 4, none⟩ = some (.int .u64 x.sd) ∧ w'.cell? ⟨w.heap.size, 5, none⟩ = some (.slice none 0 0)) (first | (refine ⟨?_, ?_, ?_, ?_, ?_, ?_⟩ <;> (first | (with_reducible assumption) | (with_reducible refine cell_up x0 ?_) | (with_reducible refine cell_up x1 ?_) | (with_reducible refine cell_up x2 ?_) | (with_reducible refine cell_up x3 ?_) | (with_reducible refine cell_up x4 ?_) | (with_reducible refine cell_up x5 ?_)) <;> (repeat' (first | (with_reducible exact Below.refl _ _) | (with_reducible assumption) | (with_reducible refine below_over ?_ _ _) | (with_reducible refine Lw.below_alloc ?_ _) | (with_reducible refine Below.drew ?_) | (with_reducible refine below_drewN ?_ _) | (with_reducible refine Below.setCell ?_ ?_ _) | go_size)))) (first
      | (refine appv_step rfl _ _ 25 rfl w3.heap.size 36 i0 (.agg #[.int .u64 0, .int .i64 0]) 2 16 upds_u hi hz0 hz1 hz2 rfl (by decide) (.slice (some ⟨w3.heap.size, 0, none⟩) 0 0) 0 [] rfl (own_empty w3.drew _ _ _ (Nat.le_refl _)) (fun h => by cases h) none 0 0 [] rfl (by simp) (by simp) (RdV.nil _ _) (by simp) (by unfold maxLen; omega) (by omega) (by first | (simp; done) | (simp; omega)) ?_; intro A4 cap4 w4 hown4 hgrow4; have hb4 : Below w3.heap.size w3 w4 := app_below2 (show Below w3.heap.size w3 (w3.drew.alloc (.cells #[] 36)) from (by repeat' (first | (with_reducible exact Below.refl _ _) | (with_reducible assumption) | (with_reducible refine below_over ?_ _ _) | (with_reducible refine Lw.below_alloc ?_ _) | (with_reducible refine Below.drew ?_) | (with_reducible refine below_drewN ?_ _) | (with_reducible refine Below.setCell ?_ ?_ _) | go_size))) hgrow4 (Nat.le_refl _); (try simp only [Nat.zero_add, List.nil_append] at hown4); (try simp only [Nat.zero_add]))
      | (refine appv_step rfl _ _ 25 rfl w3.heap.size 36 i0 (.agg #[.int .u64 0, .int .i64 0]) 2 16 upds_u hi hz0 hz1 hz2 rfl (by decide) (.slice (some ⟨w3.heap.size, 0, none⟩) 0 0) 0 [] rfl ((own_empty w3.drew _ _ _ (Nat.le_refl _)).alloc _) (fun h => by cases h) none 0 0 [] rfl (by simp) (by simp) (RdV.nil _ _) (by simp) (by unfold maxLen; omega) (by omega) (by first | (simp; done) | (simp; omega)) ?_; intro A4 cap4 w4 hown4 hgrow4; have hb4 : Below w3.heap.size w3 w4 := app_below2 (show Below w3.heap.size w3 ((w3.drew.alloc (.cells #[] 36)).alloc (.cells #[.int .i64 0, .int .i64 0, .int .i64 0, .int .i64 0, .int .u64 0, .slice none 0 0] 27)) from (by repeat' (first | (with_reducible exact Below.refl _ _) | (with_reducible assumption) | (with_reducible refine below_over ?_ _ _) | (with_reducible refine Lw.below_alloc ?_ _) | (with_reducible refine Below.drew ?_) | (with_reducible refine below_drewN ?_ _) | (with_reducible refine Below.setCell ?_ ?_ _) | go_size))) hgrow4 (Nat.le_refl _); have hgB : w4.heap[w3.heap.size + 1]? = some (.cells #[.int .i64 0, .int .i64 0, .int .i64 0, .int .i64 0, .int .u64 0, .slice none 0 0] 27 (0, 0)) := (hgrow4.block _ (by simp) (fun e => by injection e with e; simp at e)).trans (by first | exact pc_alloc3 w3 _ _ _ | exact pc_alloc2 (by simp)); have hgb2 : w3.heap.size ≤ w3.heap.size + 1 := (by omega); (try simp only [Nat.zero_add, List.nil_append] at hown4); (try simp only [Nat.zero_add]))
      | (refine appv_step rfl _ _ 25 rfl w3.heap.size 36 i0 (.agg #[.int .u64 0, .int .i64 0]) 2 16 upds_u hi hz0 hz1 hz2 rfl (by decide) (.slice (some ⟨w3.heap.size + 1, 0, none⟩) 0 0) 0 [] rfl (own_empty2 w3.drew (.cells #[.int .i64 0, .int .i64 0, .int .i64 0, .int .i64 0, .int .u64 0, .slice none 0 0] 27) _ _ _ (Nat.le_refl _)) (fun h => by cases h) none 0 0 [] rfl (by simp) (by simp) (RdV.nil _ _) (by simp) (by unfold maxLen; omega) (by omega) (by first | (simp; done) | (simp; omega)) ?_; intro A4 cap4 w4 hown4 hgrow4; have hb4 : Below w3.heap.size w3 w4 := app_below2 (show Below w3.heap.size w3 ((w3.drew.alloc (.cells #[.int .i64 0, .int .i64 0, .int .i64 0, .int .i64 0, .int .u64 0, .slice none 0 0] 27)).alloc (.cells #[] 36)) from (by repeat' (first | (with_reducible exact Below.refl _ _) | (with_reducible assumption) | (with_reducible refine below_over ?_ _ _) | (with_reducible refine Lw.below_alloc ?_ _) | (with_reducible refine Below.drew ?_) | (with_reducible refine below_drewN ?_ _) | (with_reducible refine Below.setCell ?_ ?_ _) | go_size))) hgrow4 (Nat.le_succ _); have hgB : w4.heap[w3.heap.size]? = some (.cells #[.int .i64 0, .int .i64 0, .int .i64 0, .int .i64 0, .int .u64 0, .slice none 0 0] 27 (0, 0)) := (hgrow4.block _ (by simp) (fun e => by injection e with e; simp at e)).trans (by first | exact pc_alloc3 w3 _ _ _ | exact pc_alloc2 (by simp)); have hgb2 : w3.heap.size ≤ w3.heap.size := (by omega); (try simp only [Nat.zero_add, List.nil_append] at hown4); (try simp only [Nat.zero_add]))
      | (refine appv_step rfl _ _ 25 rfl w3.heap.size 36 i0 (.agg #[.int .u64 0, .int .i64 0]) 2 16 upds_u hi hz0 hz1 hz2 rfl (by decide) (.slice (some A4) 0 cap4) 0 [] rfl (hown4.alloc _) (fun h => by cases h) none 0 0 [] rfl (by simp) (by simp) (RdV.nil _ _) (by simp) (by unfold maxLen; omega) (by omega) (Lw.below_alloc hb4 (.cells #[.int .i64 0, .int .i64 0, .int .i64 0, .int .i64 0, .int .u64 0, .slice none 0 0] 27)).size ?_; intro A5 cap5 w5 hown5 hgrow5; have hb5 : Below w3.heap.size w3 w5 := (Lw.below_alloc hb4 (.cells #[.int .i64 0, .int .i64 0, .int .i64 0, .int .i64 0, .int .u64 0, .slice none 0 0] 27)).grown hgrow5 (Lw.below_alloc hb4 (.cells #[.int .i64 0, .int .i64 0, .int .i64 0, .int .i64 0, .int .u64 0, .slice none 0 0] 27)).size (fun k hk => own_ge hown4 k hk); rw [← HFL.out] at hown5; have hg9 : w5.heap[w4.heap.size]? = some (.cells #[.int .i64 0, .int .i64 0, .int .i64 0, .int .i64 0, .int .u64 0, .slice none 0 0] 27 (0, 0)) := (hgrow5.block _ (by simp) (fun e => by have h9 := own_lt hown4 e.symm; omega)).trans (heap_alloc_new _ _); have hgp : w3.heap.size ≤ w4.heap.size := hb4.size; have HE := Lib.hid (ord_end HV3.out hb5 hown5 HPL.out HPB.out hg9 hgp); have z0 := boxs_frozen HE.out.i0 0; have z1 := boxs_frozen HE.out.i0 1; have z2 := boxs_frozen HE.out.i0 2; have z3 := boxs_frozen HE.out.i0 3; have z4 := boxs_frozen HE.out.i0 4; have z5 := boxs_frozen HE.out.i0 5; obtain ⟨y0, y1, y2, y3, y4, y5⟩ := box6 HE.out.i0)
      | (refine appv_step rfl _ _ 25 rfl w3.heap.size 36 i0 (.agg #[.int .u64 0, .int .i64 0]) 2 16 upds_u hi hz0 hz1 hz2 rfl (by decide) (.slice (some A4) 0 cap4) 0 [] rfl (hown4) (fun h => by cases h) none 0 0 [] rfl (by simp) (by simp) (RdV.nil _ _) (by simp) (by unfold maxLen; omega) (by omega) hb4.size ?_; intro A5 cap5 w5 hown5 hgrow5; have hb5 : Below w3.heap.size w3 w5 := hb4.grown hgrow5 hb4.size (fun k hk => own_ge hown4 k hk); rw [← HFL.out] at hown5; have hg9 := (hgrow5.block _ (hp_lt2 hgB) (fun e => own_type hown4 e.symm hgB (by decide))).trans hgB; have HE := Lib.hid (ord_end HV3.out hb5 hown5 HPL.out HPB.out hg9 hgb2); have z0 := boxs_frozen HE.out.i0 0; have z1 := boxs_frozen HE.out.i0 1; have z2 := boxs_frozen HE.out.i0 2; have z3 := boxs_frozen HE.out.i0 3; have z4 := boxs_frozen HE.out.i0 4; have z5 := boxs_frozen HE.out.i0 5; obtain ⟨y0, y1, y2, y3, y4, y5⟩ := box6 HE.out.i0)
      | (refine appv_step rfl _ _ 25 rfl w3.heap.size 36 i0 (.agg #[.int .u64 0, .int .i64 0]) 2 16 upds_u hi hz0 hz1 hz2 rfl (by decide) (.slice (some A4) 0 cap4) 0 [] rfl (hown4) (fun h => by cases h) none 0 0 [] rfl (by simp) (by simp) (RdV.nil _ _) (by simp) (by unfold maxLen; omega) (by omega) hb4.size ?_; intro A5 cap5 w5 hown5 hgrow5; have hb5 : Below w3.heap.size w3 w5 := hb4.grown hgrow5 hb4.size (fun k hk => own_ge hown4 k hk); rw [← HFL.out] at hown5; have HE := Lib.hid (ord_end2 HV3.out hb5 hown5 HPL.out HPB.out)))
    all_goals go_wp2
    all_goals go_meet
    all_goals refine ⟨_, some A5, cap5, rfl, ?_⟩
    all_goals first
      | with_reducible exact turn6 HE.out _ _ _ _ _ _
      | with_reducible exact push_box HE.out _ _
  case rest =>
    obtain ⟨gp, A5, cap5, rfl, hv⟩ := hcut
    have HV6 := Lib.hid hv
    clear hv        hcm hnc   hz0 hz1 hz2 x0 x1 x2 x3 x4 x5 hbw3
    obtain ⟨y0, y1, y2, y3, y4, y5⟩ := box6 HV6.out.i0
    go_wp2_with ((go_at_call 10; (with_reducible refine (FD2.out A5 0 cap5 _ (upI HV6.out.i1)).mono ?_); rintro e w7 ⟨q, G, rfl, hv⟩; have HV7 := Lib.hid (HV6.out.join hv); simp only [List.cons_append, List.nil_append] at HV7; clear hv))
    obtain ⟨gd, hgd⟩ : ∃ g, w7.heap.size = g := ⟨_, rfl⟩
    have hv8 := HV7.out.push (boxT w7.heap.size 24 #[.int .i64 c.bt, .int .i64 c.rw, .int .i64 c.wd, .int .i64 c.md, .int .u64 c.sd]) (Lw.below_alloc (Below.refl _ _) _) (heap_alloc_new w7 _) (fun k hk => Nat.le_of_eq hk.symm)
    rw [hgd] at hv8 ⊢
    have HV8 : Hid (Have w (w7.alloc (.cells #[.int .i64 c.bt, .int .i64 c.rw, .int .i64 c.wd, .int .i64 c.md, .int .u64 c.sd] 24)) [stT q G c Z, boxT gc 24 #[.int .i64 c.bt, .int .i64 c.rw, .int .i64 c.wd, .int .i64 c.md, .int .u64 c.sd], stT p F c Z]) := Lib.hid (pick3 hv8)
    obtain ⟨w8, hw8⟩ : ∃ w8, w8 = w7.alloc (.cells #[.int .i64 c.bt, .int .i64 c.rw, .int .i64 c.wd, .int .i64 c.md, .int .u64 c.sd] 24) := ⟨_, rfl⟩
    rw [← hw8] at HV8 ⊢
    clear hv8 hgd hw8 y0 y1 y2 y3 y4 y5 HV6 HV7 HV3 FD2
    go_loopw [15] (fun iv wr => ∃ n : Nat, (n : Int) ≤ c.bt + 1 ∧ iv = .int .i64 n ∧ Have w wr [stT q G c Z, boxT gc 24 #[.int .i64 c.bt, .int .i64 c.rw, .int .i64 c.wd, .int .i64 c.md, .int .u64 c.sd], stT p F c Z]) (fun iv _ => 100 - (intOf iv).toNat)
    case atStart => exact ⟨0, by omega, rfl, HV8.out⟩
    case round =>
      obtain ⟨n, hn, rfl, hv⟩ := hrel
      have HVr := Lib.hid hv
      clear hv
      obtain ⟨e1, e2, e3, e4, e5⟩ := box5 HVr.out.i1
      by_cases hlt : (n : Int) ≤ c.bt
      · obtain ⟨LL, hLL⟩ : ∃ LL, lvFl Z n = LL := ⟨_, rfl⟩
        have hlv := HLV.out n hlt
        rw [hLL] at hlv
        have HL1 := Lib.hid hlv.1
        have HL2 := Lib.hid hlv.2
        have CR := Lib.hid (fun p F w hs => cs_row p F c Z n LL w hs (by omega) hLL hlv.1 hlv.2)
        have hwn1 : IntKind.i64.wrap ((n : Int) + 1) = ((n + 1 : Nat) : Int) := nx_w1 (by omega)
        have hwn2 : wrap64 ((n : Int) + 1) = ((n + 1 : Nat) : Int) := nx_w2 (by omega)
        have hdl : decide (LL = LL) = true := decide_eq_true rfl
        clear hlv hLL
        go_wp2_with (first
          | (go_at_call 15; (with_reducible refine (rsame_any _ _ _ _ _ _ LL LL _ (rdI HVb.out.i1) (rdI HVb.out.i0) rfl rfl (le_trans64 HL2.out) (le_trans64 HL2.out)).mono ?_); rintro e wc ⟨rfl, hb⟩; have HVc := Lib.hid (HVb.out.up hb); clear hb)
          | (go_at_call 16; (with_reducible refine (CR.out q G _ (stI HVa.out.i1)).mono ?_); rintro e wb ⟨Ab, cb, rfl, h1, h2, hb⟩; have HVb := Lib.hid (HVa.out.push (rdT Ab LL) hb h1 h2); clear h1 h2 hb)
          | (go_at_call 16; (with_reducible refine (CR.out p F _ (stI HVr.out.i2)).mono ?_); rintro e wa ⟨Aa, ca, rfl, h1, h2, hb⟩; have HVa := Lib.hid (HVr.out.push (rdT Aa LL) hb h1 h2); clear h1 h2 hb))
        go_roundw
        case rel => exact ⟨n + 1, by omega, by go_num, HVc.out.drop_0.drop_0⟩
        case measure => simp [intOf]; omega
      · go_wp2_with (first
          | (go_at_call 18; (with_reducible refine (CTO.out q G _ (stI HVa.out.i0)).mono ?_); rintro e wb ⟨rfl, hb⟩; have HVb := Lib.hid (HVa.out.up hb); clear hb)
          | (go_at_call 18; (with_reducible refine (CTO.out p F _ (stI HVr.out.i2)).mono ?_); rintro e wa ⟨rfl, hb⟩; have HVa := Lib.hid (HVr.out.up hb); clear hb))
        go_ret
        exact ⟨ret_bs (by first | rfl | (simp [*]; done)), HVb.out.below⟩

set_option maxRecDepth 100000 in
set_option maxHeartbeats 16000000 in
theorem ord_g_true (x : Cfg) (A : Option Addr) (n0 k0 : Nat) (qs : Ups) (at' : Int) (w : World) (hx : x.Ok) (hq : UpdV w A n0 k0 qs) (N K : Nat) (hN : N = min 60 n0) (X : Int) (a1 : bits .and .i64 at' 65535 = X) (b1 : 0 ≤ X) (dd : Int.tmod X ((N : Int) + 1) = (K : Int)) (hK : K ≤ N) (ad : Addr) (hA : A = some ad) (hck : K < k0) :
    Calls Try.prog 6 #[.agg #[.int .i64 x.bt, .int .i64 x.rw, .int .i64 x.wd, .int .i64 x.md, .int .u64 x.sd, .slice A n0 k0], .int .i64 at', .bool true] w fun e w' => e = .returned (.bool true) ∧ Below w.heap.size w w' := by
  obtain ⟨c, hC⟩ : ∃ c, { anyC x 10 9 with md := 3 } = c := ⟨_, rfl⟩
  have hr0 := any_right x 10 9 (by omega) (by omega) (by omega) (by omega)
  have hr : IsRight c := by rw [← hC]; exact ⟨hr0.1, hr0.2.1, hr0.2.2.1, hr0.2.2.2.1, hr0.2.2.2.2.1, hr0.2.2.2.2.2.1, (by show (1 : Int) ≤ 3; omega), (by show (3 : Int) ≤ 3; omega)⟩
  have hmd : c.md = 3 := by rw [← hC]
  have hbt := hr.1
  have hb5 := hr.2.1
  have hkeys : 1 ≤ keys c 0 := keys_pos.2 ⟨hr, by omega, by omega⟩
  have FD := Lib.hid (fun w hq => fed_m x A n0 k0 qs 3 (by omega) (by omega) 0 60 0 60 c w hx hq rfl rfl (by omega) (by omega) hC)
  have hnl := hq.len
  obtain ⟨ps, hps⟩ : ∃ ps, (qs.take N).drop K ++ qs.take K = ps := ⟨_, rfl⟩
  have FD2 := Lib.hid (fun B m q w hq => fed_m x B m q ps 3 (by omega) (by omega) 0 60 0 60 c w hx hq rfl rfl (by omega) (by omega) hC)
  have hin := upsR_in hkeys qs 0 60
  have htn := upsR_turn c 0 qs (N := N) (K := K) (by rw [hN, hnl]) hK
  rw [hps] at htn
  obtain ⟨us, hus⟩ : ∃ us, upsR c 0 qs 0 60 = us := ⟨_, rfl⟩
  rw [hus] at FD htn hin
  have hsw : stsOf c (upsR c 0 ps 0 60) = stsOf c us := by
    have h1 := stsOf_swap hr (by omega) (us := us.take K) (vs := us.drop K) (by rw [List.take_append_drop]; exact hin)
    rw [List.take_append_drop] at h1
    rw [htn, h1]
  rw [hsw] at FD2
  have HLV := Lib.hid (fun (n : Nat) (hn : (n : Int) ≤ c.bt) => lv_size hr hin (n := n) hn)
  obtain ⟨Z, hZ⟩ : ∃ Z, stsOf c us = Z := ⟨_, rfl⟩
  rw [hZ] at FD FD2 HLV
  have CTO := Lib.hid (fun p F w hs => cs_total p F c Z w hs)
  obtain ⟨TV, hTV⟩ : ∃ v, spV c Z c.bt 0 = v := ⟨_, rfl⟩
  rw [hTV] at CTO
  have hpl : ps.length = N := by rw [← hps, List.length_append, List.length_drop, List.length_take, List.length_take]; omega
  have hpb : ∀ u ∈ ps, (0 ≤ u.1 ∧ u.1 ≤ 18446744073709551615) ∧ (-9223372036854775808 ≤ u.2 ∧ u.2 ≤ 9223372036854775807) := by
    intro u hu
    rw [← hps] at hu
    have hm : u ∈ qs := by
      rcases List.mem_append.1 hu with g | g
      · exact List.mem_of_mem_take (List.mem_of_mem_drop g)
      · exact List.mem_of_mem_take g
    obtain ⟨i, hi⟩ := List.getElem?_of_mem hm
    obtain ⟨_, _, _, _, _, _, _, g1, g2⟩ := hq.at hi
    exact ⟨g1, g2⟩
  have HPB := Lib.hid hpb
  have hfl : flatU ps = flatU ((qs.take N).drop K) ++ flatU (qs.take K) := by rw [← hps]; unfold flatU; rw [List.flatMap_append]
  have hfc1 := (flatU_cut (qs.take N) K).2
  have hfc2 := (flatU_cut qs K).1
  have hfc3 := (flatU_cut qs N).1
  have HQ := Lib.hid hq
  have hnc := hq.nc
  have hcm := hq.cm
  unfold maxLen at hcm
  obtain ⟨i0, hi, hz0, hz1, hz2⟩ := info_parts upd_info
  have hN6 : N ≤ 60 := by omega
  have hNn : N ≤ n0 := by omega
  have hmin : (if (60 : Int) < n0 then (60 : Int) else (n0 : Int)) = N := n1_min hN
  have hw1 : IntKind.i64.wrap ((N : Int) + 1) = (N : Int) + 1 := n1_w1 hN6
  have hw2 : wrap64 ((N : Int) + 1) = (N : Int) + 1 := n1_w2 hN6
  have hbn : ¬ (N : Int) + 1 = 0 := n1_ne N
  have HBX : Hid (Have w (w.alloc (.cells #[.int .i64 x.bt, .int .i64 x.rw, .int .i64 x.wd, .int .i64 x.md, .int .u64 x.sd, .slice A n0 k0] 27)) [boxT w.heap.size 27 #[.int .i64 x.bt, .int .i64 x.rw, .int .i64 x.wd, .int .i64 x.md, .int .u64 x.sd, .slice A n0 k0]]) := Lib.hid (box_new w _ _)
  subst hA
  have hR1 : Hid (RdV w (some (ad.add (K * 2))) (flatU ((qs.take N).drop K))) := Lib.hid (by rw [hfc1, hfc3]; exact ((upd_rdv hq).take (N * 2)).drop (K * 2))
  have HPL := Lib.hid hpl
  have HFL := Lib.hid hfl
  have HL1 : Hid ((flatU ((qs.take N).drop K)).length = (N - K) * 2) := Lib.hid (fl_len1 hnl hNn)
  have HL2 : Hid ((flatU (qs.take K)).length = K * 2) := Lib.hid (fl_len2 hnl hNn hK)
  have hR2 : Hid (RdV w (some ad) (flatU (qs.take K))) := Lib.hid (by rw [hfc2]; exact (upd_rdv hq).take (K * 2))
  clear hr hr0 hC hmd hkeys htn hin hus hsw hZ hTV hpl hpb hps hfl hfc1 hfc2 hfc3 hq hx b1 hnl hN
  go_enter Try.func6, Try.ntmps6
  go_upto_region 8 with (first
    | (go_at_call 10; (with_reducible refine (FD.out _ (HQ.out.up HV1.out.below)).mono ?_); rintro e w2 ⟨p, F, rfl, hv⟩; have HV2 := Lib.hid (HV1.out.join hv); simp only [List.cons_append, List.nil_append] at HV2; clear hv; have HV3 := Lib.hid (HV2.out.push (boxT w2.heap.size 24 #[.int .i64 c.bt, .int .i64 c.rw, .int .i64 c.wd, .int .i64 c.md, .int .u64 c.sd]) (Lw.below_alloc (Below.refl _ _) _) (heap_alloc_new w2 _) (fun k hk => Nat.le_of_eq hk.symm)); clear x0 x1 x2 x3 x4 x5; obtain ⟨x0, x1, x2, x3, x4, x5⟩ := box6 HV3.out.i2)
    | (go_at_call 9; (with_reducible refine (shown_any _).mono ?_); rintro e w1 ⟨rfl, hb⟩; have HV1 := Lib.hid (HBX.out.up hb); clear hb; obtain ⟨x0, x1, x2, x3, x4, x5⟩ := box6 HV1.out.i0))
  obtain ⟨gc, hgc⟩ : ∃ g, w2.heap.size = g := ⟨_, rfl⟩
  rw [hgc] at HV3 ⊢
  obtain ⟨w3, hw3⟩ : ∃ w3, w3 = w2.alloc (.cells #[.int .i64 c.bt, .int .i64 c.rw, .int .i64 c.wd, .int .i64 c.md, .int .u64 c.sd] 24) := ⟨_, rfl⟩
  rw [← hw3] at HV3 x0 x1 x2 x3 x4 x5 ⊢
  clear hw3 hgc HV2 HV1 HBX FD hw1 hw2 hbn hmin a1 dd
  have hbw3 := HV3.out.below
  have hkk : ¬ k0 = K := by omega
  have hs0 : (0 : Int) ≤ (K : Int) := by omega
  have hs1 : (K : Int) ≤ (N : Int) := by omega
  have hs2 : (N : Int) ≤ (k0 : Int) := by omega
  have hs3 : (K : Int) ≤ (k0 : Int) := by omega
  have hs4 : ¬ (N : Int) < (K : Int) := by omega
  have hs5 : ¬ (k0 : Int) < (N : Int) := by omega
  have hs6 : ¬ (k0 : Int) < (K : Int) := by omega
  go_cut [12] (fun s12 wx => ∃ (gp : Nat) (A5 : Option Addr) (cap5 : Nat), s12 = .pointer (some ⟨gp, 0, none⟩) ∧ Have w wx [boxT gp 27 #[.int .i64 x.bt, .int .i64 x.rw, .int .i64 x.wd, .int .i64 x.md, .int .u64 x.sd, .slice A5 N cap5], upT A5 N cap5 ps, boxT gc 24 #[.int .i64 c.bt, .int .i64 c.rw, .int .i64 c.wd, .int .i64 c.md, .int .u64 c.sd], stT p F c Z, boxT w.heap.size 27 #[.int .i64 x.bt, .int .i64 x.rw, .int .i64 x.wd, .int .i64 x.md, .int .u64 x.sd, .slice (some ad) n0 k0]])
  case first =>
    skip
    skip
    skip
    go_region_held3 (fun w' => w'.cell? ⟨w.heap.size, 0, none⟩ = some (.int .i64 x.bt) ∧ w'.cell? ⟨w.heap.size, 1, none⟩ = some (.int .i64 x.rw) ∧ w'.cell? ⟨w.heap.size, 2, none⟩ = some (.int .i64 x.wd) ∧ w'.cell? ⟨w.heap.size, 3, none⟩ = some (.int .i64 x.md) ∧ w'.cell? ⟨w.heap.size, 4, none⟩ = some (.int .u64 x.sd) ∧ w'.cell? ⟨w.heap.size, 5, none⟩ = some (.slice (some ad) n0 k0)) (first | (refine ⟨?_, ?_, ?_, ?_, ?_, ?_⟩ <;> (first | (with_reducible assumption) | (with_reducible refine cell_up x0 ?_) | (with_reducible refine cell_up x1 ?_) | (with_reducible refine cell_up x2 ?_) | (with_reducible refine cell_up x3 ?_) | (with_reducible refine cell_up x4 ?_) | (with_reducible refine cell_up x5 ?_)) <;> (repeat' (first | (with_reducible exact Below.refl _ _) | (with_reducible assumption) | (with_reducible refine below_over ?_ _ _) | (with_reducible refine Lw.below_alloc ?_ _) | (with_reducible refine Below.drew ?_) | (with_reducible refine below_drewN ?_ _) | (with_reducible refine Below.setCell ?_ ?_ _) | go_size)))) (first
      | (refine appv_step rfl _ _ 25 rfl w3.heap.size 36 i0 (.agg #[.int .u64 0, .int .i64 0]) 2 16 upds_u hi hz0 hz1 hz2 rfl (by decide) (.slice (some ⟨w3.heap.size, 0, none⟩) 0 0) 0 [] rfl (own_empty w3.drew _ _ _ (Nat.le_refl _)) (fun h => by cases h) (some (ad.add (K * 2))) (N - K) (k0 - K) (flatU ((qs.take N).drop K)) rfl (by simp) HL1.out (hR1.out.up (by repeat' (first | (with_reducible exact Below.refl _ _) | (with_reducible assumption) | (with_reducible refine below_over ?_ _ _) | (with_reducible refine Lw.below_alloc ?_ _) | (with_reducible refine Below.drew ?_) | (with_reducible refine below_drewN ?_ _) | (with_reducible refine Below.setCell ?_ ?_ _) | go_size))) (flatU_one _) (by unfold maxLen; omega) (by omega) (by first | (simp; done) | (simp; omega)) ?_; intro A4 cap4 w4 hown4 hgrow4; have hb4 : Below w3.heap.size w3 w4 := app_below2 (show Below w3.heap.size w3 (w3.drew.alloc (.cells #[] 36)) from (by repeat' (first | (with_reducible exact Below.refl _ _) | (with_reducible assumption) | (with_reducible refine below_over ?_ _ _) | (with_reducible refine Lw.below_alloc ?_ _) | (with_reducible refine Below.drew ?_) | (with_reducible refine below_drewN ?_ _) | (with_reducible refine Below.setCell ?_ ?_ _) | go_size))) hgrow4 (Nat.le_refl _); (try simp only [Nat.zero_add, List.nil_append] at hown4); (try simp only [Nat.zero_add]))
      | (refine appv_step rfl _ _ 25 rfl w3.heap.size 36 i0 (.agg #[.int .u64 0, .int .i64 0]) 2 16 upds_u hi hz0 hz1 hz2 rfl (by decide) (.slice (some ⟨w3.heap.size, 0, none⟩) 0 0) 0 [] rfl ((own_empty w3.drew _ _ _ (Nat.le_refl _)).alloc _) (fun h => by cases h) (some (ad.add (K * 2))) (N - K) (k0 - K) (flatU ((qs.take N).drop K)) rfl (by simp) HL1.out (hR1.out.up (by repeat' (first | (with_reducible exact Below.refl _ _) | (with_reducible assumption) | (with_reducible refine below_over ?_ _ _) | (with_reducible refine Lw.below_alloc ?_ _) | (with_reducible refine Below.drew ?_) | (with_reducible refine below_drewN ?_ _) | (with_reducible refine Below.setCell ?_ ?_ _) | go_size))) (flatU_one _) (by unfold maxLen; omega) (by omega) (by first | (simp; done) | (simp; omega)) ?_; intro A4 cap4 w4 hown4 hgrow4; have hb4 : Below w3.heap.size w3 w4 := app_below2 (show Below w3.heap.size w3 ((w3.drew.alloc (.cells #[] 36)).alloc (.cells #[.int .i64 0, .int .i64 0, .int .i64 0, .int .i64 0, .int .u64 0, .slice none 0 0] 27)) from (by repeat' (first | (with_reducible exact Below.refl _ _) | (with_reducible assumption) | (with_reducible refine below_over ?_ _ _) | (with_reducible refine Lw.below_alloc ?_ _) | (with_reducible refine Below.drew ?_) | (with_reducible refine below_drewN ?_ _) | (with_reducible refine Below.setCell ?_ ?_ _) | go_size))) hgrow4 (Nat.le_refl _); have hgB : w4.heap[w3.heap.size + 1]? = some (.cells #[.int .i64 0, .int .i64 0, .int .i64 0, .int .i64 0, .int .u64 0, .slice none 0 0] 27 (0, 0)) := (hgrow4.block _ (by simp) (fun e => by injection e with e; simp at e)).trans (by first | exact pc_alloc3 w3 _ _ _ | exact pc_alloc2 (by simp)); have hgb2 : w3.heap.size ≤ w3.heap.size + 1 := (by omega); (try simp only [Nat.zero_add, List.nil_append] at hown4); (try simp only [Nat.zero_add]))
      | (refine appv_step rfl _ _ 25 rfl w3.heap.size 36 i0 (.agg #[.int .u64 0, .int .i64 0]) 2 16 upds_u hi hz0 hz1 hz2 rfl (by decide) (.slice (some ⟨w3.heap.size + 1, 0, none⟩) 0 0) 0 [] rfl (own_empty2 w3.drew (.cells #[.int .i64 0, .int .i64 0, .int .i64 0, .int .i64 0, .int .u64 0, .slice none 0 0] 27) _ _ _ (Nat.le_refl _)) (fun h => by cases h) (some (ad.add (K * 2))) (N - K) (k0 - K) (flatU ((qs.take N).drop K)) rfl (by simp) HL1.out (hR1.out.up (by repeat' (first | (with_reducible exact Below.refl _ _) | (with_reducible assumption) | (with_reducible refine below_over ?_ _ _) | (with_reducible refine Lw.below_alloc ?_ _) | (with_reducible refine Below.drew ?_) | (with_reducible refine below_drewN ?_ _) | (with_reducible refine Below.setCell ?_ ?_ _) | go_size))) (flatU_one _) (by unfold maxLen; omega) (by omega) (by first | (simp; done) | (simp; omega)) ?_; intro A4 cap4 w4 hown4 hgrow4; have hb4 : Below w3.heap.size w3 w4 := app_below2 (show Below w3.heap.size w3 ((w3.drew.alloc (.cells #[.int .i64 0, .int .i64 0, .int .i64 0, .int .i64 0, .int .u64 0, .slice none 0 0] 27)).alloc (.cells #[] 36)) from (by repeat' (first | (with_reducible exact Below.refl _ _) | (with_reducible assumption) | (with_reducible refine below_over ?_ _ _) | (with_reducible refine Lw.below_alloc ?_ _) | (with_reducible refine Below.drew ?_) | (with_reducible refine below_drewN ?_ _) | (with_reducible refine Below.setCell ?_ ?_ _) | go_size))) hgrow4 (Nat.le_succ _); have hgB : w4.heap[w3.heap.size]? = some (.cells #[.int .i64 0, .int .i64 0, .int .i64 0, .int .i64 0, .int .u64 0, .slice none 0 0] 27 (0, 0)) := (hgrow4.block _ (by simp) (fun e => by injection e with e; simp at e)).trans (by first | exact pc_alloc3 w3 _ _ _ | exact pc_alloc2 (by simp)); have hgb2 : w3.heap.size ≤ w3.heap.size := (by omega); (try simp only [Nat.zero_add, List.nil_append] at hown4); (try simp only [Nat.zero_add]))
      | (refine appv_step rfl _ _ 25 rfl w3.heap.size 36 i0 (.agg #[.int .u64 0, .int .i64 0]) 2 16 upds_u hi hz0 hz1 hz2 rfl (by decide) (.slice (some A4) (N - K) cap4) (N - K) (flatU ((qs.take N).drop K)) rfl (hown4.alloc _) (fun h => by cases h) (some ad) K k0 (flatU (qs.take K)) rfl (by simp) HL2.out (hR2.out.up (by have hb4w : Below w.heap.size w w4 := below_call hbw3 hb4 (Nat.le_refl _); repeat' (first | (with_reducible exact Below.refl _ _) | (with_reducible assumption) | (with_reducible refine below_over ?_ _ _) | (with_reducible refine Lw.below_alloc ?_ _) | (with_reducible refine Below.drew ?_) | (with_reducible refine below_drewN ?_ _) | (with_reducible refine Below.setCell ?_ ?_ _) | go_size))) (flatU_one _) (by unfold maxLen; omega) (by omega) (Lw.below_alloc hb4 (.cells #[.int .i64 0, .int .i64 0, .int .i64 0, .int .i64 0, .int .u64 0, .slice none 0 0] 27)).size ?_; intro A5 cap5 w5 hown5 hgrow5; have hb5 : Below w3.heap.size w3 w5 := (Lw.below_alloc hb4 (.cells #[.int .i64 0, .int .i64 0, .int .i64 0, .int .i64 0, .int .u64 0, .slice none 0 0] 27)).grown hgrow5 (Lw.below_alloc hb4 (.cells #[.int .i64 0, .int .i64 0, .int .i64 0, .int .i64 0, .int .u64 0, .slice none 0 0] 27)).size (fun k hk => own_ge hown4 k hk); rw [← HFL.out, Nat.sub_add_cancel hK] at hown5; have hg9 : w5.heap[w4.heap.size]? = some (.cells #[.int .i64 0, .int .i64 0, .int .i64 0, .int .i64 0, .int .u64 0, .slice none 0 0] 27 (0, 0)) := (hgrow5.block _ (by simp) (fun e => by have h9 := own_lt hown4 e.symm; omega)).trans (heap_alloc_new _ _); have hgp : w3.heap.size ≤ w4.heap.size := hb4.size; have HE := Lib.hid (ord_end HV3.out hb5 hown5 HPL.out HPB.out hg9 hgp); have z0 := boxs_frozen HE.out.i0 0; have z1 := boxs_frozen HE.out.i0 1; have z2 := boxs_frozen HE.out.i0 2; have z3 := boxs_frozen HE.out.i0 3; have z4 := boxs_frozen HE.out.i0 4; have z5 := boxs_frozen HE.out.i0 5; obtain ⟨y0, y1, y2, y3, y4, y5⟩ := box6 HE.out.i0)
      | (refine appv_step rfl _ _ 25 rfl w3.heap.size 36 i0 (.agg #[.int .u64 0, .int .i64 0]) 2 16 upds_u hi hz0 hz1 hz2 rfl (by decide) (.slice (some A4) (N - K) cap4) (N - K) (flatU ((qs.take N).drop K)) rfl (hown4) (fun h => by cases h) (some ad) K k0 (flatU (qs.take K)) rfl (by simp) HL2.out (hR2.out.up (by have hb4w : Below w.heap.size w w4 := below_call hbw3 hb4 (Nat.le_refl _); repeat' (first | (with_reducible exact Below.refl _ _) | (with_reducible assumption) | (with_reducible refine below_over ?_ _ _) | (with_reducible refine Lw.below_alloc ?_ _) | (with_reducible refine Below.drew ?_) | (with_reducible refine below_drewN ?_ _) | (with_reducible refine Below.setCell ?_ ?_ _) | go_size))) (flatU_one _) (by unfold maxLen; omega) (by omega) hb4.size ?_; intro A5 cap5 w5 hown5 hgrow5; have hb5 : Below w3.heap.size w3 w5 := hb4.grown hgrow5 hb4.size (fun k hk => own_ge hown4 k hk); rw [← HFL.out, Nat.sub_add_cancel hK] at hown5; have hg9 := (hgrow5.block _ (hp_lt2 hgB) (fun e => own_type hown4 e.symm hgB (by decide))).trans hgB; have HE := Lib.hid (ord_end HV3.out hb5 hown5 HPL.out HPB.out hg9 hgb2); have z0 := boxs_frozen HE.out.i0 0; have z1 := boxs_frozen HE.out.i0 1; have z2 := boxs_frozen HE.out.i0 2; have z3 := boxs_frozen HE.out.i0 3; have z4 := boxs_frozen HE.out.i0 4; have z5 := boxs_frozen HE.out.i0 5; obtain ⟨y0, y1, y2, y3, y4, y5⟩ := box6 HE.out.i0)
      | (refine appv_step rfl _ _ 25 rfl w3.heap.size 36 i0 (.agg #[.int .u64 0, .int .i64 0]) 2 16 upds_u hi hz0 hz1 hz2 rfl (by decide) (.slice (some A4) (N - K) cap4) (N - K) (flatU ((qs.take N).drop K)) rfl (hown4) (fun h => by cases h) (some ad) K k0 (flatU (qs.take K)) rfl (by simp) HL2.out (hR2.out.up (by have hb4w : Below w.heap.size w w4 := below_call hbw3 hb4 (Nat.le_refl _); repeat' (first | (with_reducible exact Below.refl _ _) | (with_reducible assumption) | (with_reducible refine below_over ?_ _ _) | (with_reducible refine Lw.below_alloc ?_ _) | (with_reducible refine Below.drew ?_) | (with_reducible refine below_drewN ?_ _) | (with_reducible refine Below.setCell ?_ ?_ _) | go_size))) (flatU_one _) (by unfold maxLen; omega) (by omega) hb4.size ?_; intro A5 cap5 w5 hown5 hgrow5; have hb5 : Below w3.heap.size w3 w5 := hb4.grown hgrow5 hb4.size (fun k hk => own_ge hown4 k hk); rw [← HFL.out, Nat.sub_add_cancel hK] at hown5; have HE := Lib.hid (ord_end2 HV3.out hb5 hown5 HPL.out HPB.out)))
    all_goals go_wp2
    all_goals go_meet
    all_goals refine ⟨_, some A5, cap5, rfl, ?_⟩
    all_goals first
      | with_reducible exact turn6 HE.out _ _ _ _ _ _
      | with_reducible exact push_box HE.out _ _
  case rest =>
    obtain ⟨gp, A5, cap5, rfl, hv⟩ := hcut
    have HV6 := Lib.hid hv
    clear hv hs0 hs1 hs2 hs3 hs4 hs5 hs6 hcm hnc hN6 hNn hz0 hz1 hz2 x0 x1 x2 x3 x4 x5 hbw3
    obtain ⟨y0, y1, y2, y3, y4, y5⟩ := box6 HV6.out.i0
    go_wp2_with ((go_at_call 10; (with_reducible refine (FD2.out A5 N cap5 _ (upI HV6.out.i1)).mono ?_); rintro e w7 ⟨q, G, rfl, hv⟩; have HV7 := Lib.hid (HV6.out.join hv); simp only [List.cons_append, List.nil_append] at HV7; clear hv))
    obtain ⟨gd, hgd⟩ : ∃ g, w7.heap.size = g := ⟨_, rfl⟩
    have hv8 := HV7.out.push (boxT w7.heap.size 24 #[.int .i64 c.bt, .int .i64 c.rw, .int .i64 c.wd, .int .i64 c.md, .int .u64 c.sd]) (Lw.below_alloc (Below.refl _ _) _) (heap_alloc_new w7 _) (fun k hk => Nat.le_of_eq hk.symm)
    rw [hgd] at hv8 ⊢
    have HV8 : Hid (Have w (w7.alloc (.cells #[.int .i64 c.bt, .int .i64 c.rw, .int .i64 c.wd, .int .i64 c.md, .int .u64 c.sd] 24)) [stT q G c Z, boxT gc 24 #[.int .i64 c.bt, .int .i64 c.rw, .int .i64 c.wd, .int .i64 c.md, .int .u64 c.sd], stT p F c Z]) := Lib.hid (pick3 hv8)
    obtain ⟨w8, hw8⟩ : ∃ w8, w8 = w7.alloc (.cells #[.int .i64 c.bt, .int .i64 c.rw, .int .i64 c.wd, .int .i64 c.md, .int .u64 c.sd] 24) := ⟨_, rfl⟩
    rw [← hw8] at HV8 ⊢
    clear hv8 hgd hw8 y0 y1 y2 y3 y4 y5 HV6 HV7 HV3 FD2
    go_loopw [15] (fun iv wr => ∃ n : Nat, (n : Int) ≤ c.bt + 1 ∧ iv = .int .i64 n ∧ Have w wr [stT q G c Z, boxT gc 24 #[.int .i64 c.bt, .int .i64 c.rw, .int .i64 c.wd, .int .i64 c.md, .int .u64 c.sd], stT p F c Z]) (fun iv _ => 100 - (intOf iv).toNat)
    case atStart => exact ⟨0, by omega, rfl, HV8.out⟩
    case round =>
      obtain ⟨n, hn, rfl, hv⟩ := hrel
      have HVr := Lib.hid hv
      clear hv
      obtain ⟨e1, e2, e3, e4, e5⟩ := box5 HVr.out.i1
      by_cases hlt : (n : Int) ≤ c.bt
      · obtain ⟨LL, hLL⟩ : ∃ LL, lvFl Z n = LL := ⟨_, rfl⟩
        have hlv := HLV.out n hlt
        rw [hLL] at hlv
        have HL1 := Lib.hid hlv.1
        have HL2 := Lib.hid hlv.2
        have CR := Lib.hid (fun p F w hs => cs_row p F c Z n LL w hs (by omega) hLL hlv.1 hlv.2)
        have hwn1 : IntKind.i64.wrap ((n : Int) + 1) = ((n + 1 : Nat) : Int) := nx_w1 (by omega)
        have hwn2 : wrap64 ((n : Int) + 1) = ((n + 1 : Nat) : Int) := nx_w2 (by omega)
        have hdl : decide (LL = LL) = true := decide_eq_true rfl
        clear hlv hLL
        go_wp2_with (first
          | (go_at_call 15; (with_reducible refine (rsame_any _ _ _ _ _ _ LL LL _ (rdI HVb.out.i1) (rdI HVb.out.i0) rfl rfl (le_trans64 HL2.out) (le_trans64 HL2.out)).mono ?_); rintro e wc ⟨rfl, hb⟩; have HVc := Lib.hid (HVb.out.up hb); clear hb)
          | (go_at_call 16; (with_reducible refine (CR.out q G _ (stI HVa.out.i1)).mono ?_); rintro e wb ⟨Ab, cb, rfl, h1, h2, hb⟩; have HVb := Lib.hid (HVa.out.push (rdT Ab LL) hb h1 h2); clear h1 h2 hb)
          | (go_at_call 16; (with_reducible refine (CR.out p F _ (stI HVr.out.i2)).mono ?_); rintro e wa ⟨Aa, ca, rfl, h1, h2, hb⟩; have HVa := Lib.hid (HVr.out.push (rdT Aa LL) hb h1 h2); clear h1 h2 hb))
        go_roundw
        case rel => exact ⟨n + 1, by omega, by go_num, HVc.out.drop_0.drop_0⟩
        case measure => simp [intOf]; omega
      · go_wp2_with (first
          | (go_at_call 18; (with_reducible refine (CTO.out q G _ (stI HVa.out.i0)).mono ?_); rintro e wb ⟨rfl, hb⟩; have HVb := Lib.hid (HVa.out.up hb); clear hb)
          | (go_at_call 18; (with_reducible refine (CTO.out p F _ (stI HVr.out.i2)).mono ?_); rintro e wa ⟨rfl, hb⟩; have HVa := Lib.hid (HVr.out.up hb); clear hb))
        go_ret
        exact ⟨ret_bs (by first | rfl | (simp [*]; done)), HVb.out.below⟩

set_option maxRecDepth 100000 in
set_option maxHeartbeats 16000000 in
theorem ord_e_true (x : Cfg) (A : Option Addr) (n0 k0 : Nat) (qs : Ups) (at' : Int) (w : World) (hx : x.Ok) (hq : UpdV w A n0 k0 qs) (N K : Nat) (hN : N = min 60 n0) (X : Int) (a1 : bits .and .i64 at' 65535 = X) (b1 : 0 ≤ X) (dd : Int.tmod X ((N : Int) + 1) = (K : Int)) (hK : K ≤ N) (ad : Addr) (hA : A = some ad) (hck : k0 = K) :
    Calls Try.prog 6 #[.agg #[.int .i64 x.bt, .int .i64 x.rw, .int .i64 x.wd, .int .i64 x.md, .int .u64 x.sd, .slice A n0 k0], .int .i64 at', .bool true] w fun e w' => e = .returned (.bool true) ∧ Below w.heap.size w w' := by
  obtain ⟨c, hC⟩ : ∃ c, { anyC x 10 9 with md := 3 } = c := ⟨_, rfl⟩
  have hr0 := any_right x 10 9 (by omega) (by omega) (by omega) (by omega)
  have hr : IsRight c := by rw [← hC]; exact ⟨hr0.1, hr0.2.1, hr0.2.2.1, hr0.2.2.2.1, hr0.2.2.2.2.1, hr0.2.2.2.2.2.1, (by show (1 : Int) ≤ 3; omega), (by show (3 : Int) ≤ 3; omega)⟩
  have hmd : c.md = 3 := by rw [← hC]
  have hbt := hr.1
  have hb5 := hr.2.1
  have hkeys : 1 ≤ keys c 0 := keys_pos.2 ⟨hr, by omega, by omega⟩
  have FD := Lib.hid (fun w hq => fed_m x A n0 k0 qs 3 (by omega) (by omega) 0 60 0 60 c w hx hq rfl rfl (by omega) (by omega) hC)
  have hnl := hq.len
  obtain ⟨ps, hps⟩ : ∃ ps, (qs.take N).drop K ++ qs.take K = ps := ⟨_, rfl⟩
  have FD2 := Lib.hid (fun B m q w hq => fed_m x B m q ps 3 (by omega) (by omega) 0 60 0 60 c w hx hq rfl rfl (by omega) (by omega) hC)
  have hin := upsR_in hkeys qs 0 60
  have htn := upsR_turn c 0 qs (N := N) (K := K) (by rw [hN, hnl]) hK
  rw [hps] at htn
  obtain ⟨us, hus⟩ : ∃ us, upsR c 0 qs 0 60 = us := ⟨_, rfl⟩
  rw [hus] at FD htn hin
  have hsw : stsOf c (upsR c 0 ps 0 60) = stsOf c us := by
    have h1 := stsOf_swap hr (by omega) (us := us.take K) (vs := us.drop K) (by rw [List.take_append_drop]; exact hin)
    rw [List.take_append_drop] at h1
    rw [htn, h1]
  rw [hsw] at FD2
  have HLV := Lib.hid (fun (n : Nat) (hn : (n : Int) ≤ c.bt) => lv_size hr hin (n := n) hn)
  obtain ⟨Z, hZ⟩ : ∃ Z, stsOf c us = Z := ⟨_, rfl⟩
  rw [hZ] at FD FD2 HLV
  have CTO := Lib.hid (fun p F w hs => cs_total p F c Z w hs)
  obtain ⟨TV, hTV⟩ : ∃ v, spV c Z c.bt 0 = v := ⟨_, rfl⟩
  rw [hTV] at CTO
  have hpl : ps.length = N := by rw [← hps, List.length_append, List.length_drop, List.length_take, List.length_take]; omega
  have hpb : ∀ u ∈ ps, (0 ≤ u.1 ∧ u.1 ≤ 18446744073709551615) ∧ (-9223372036854775808 ≤ u.2 ∧ u.2 ≤ 9223372036854775807) := by
    intro u hu
    rw [← hps] at hu
    have hm : u ∈ qs := by
      rcases List.mem_append.1 hu with g | g
      · exact List.mem_of_mem_take (List.mem_of_mem_drop g)
      · exact List.mem_of_mem_take g
    obtain ⟨i, hi⟩ := List.getElem?_of_mem hm
    obtain ⟨_, _, _, _, _, _, _, g1, g2⟩ := hq.at hi
    exact ⟨g1, g2⟩
  have HPB := Lib.hid hpb
  have hfl : flatU ps = flatU ((qs.take N).drop K) ++ flatU (qs.take K) := by rw [← hps]; unfold flatU; rw [List.flatMap_append]
  have hfc1 := (flatU_cut (qs.take N) K).2
  have hfc2 := (flatU_cut qs K).1
  have hfc3 := (flatU_cut qs N).1
  have HQ := Lib.hid hq
  have hnc := hq.nc
  have hcm := hq.cm
  unfold maxLen at hcm
  obtain ⟨i0, hi, hz0, hz1, hz2⟩ := info_parts upd_info
  have hN6 : N ≤ 60 := by omega
  have hNn : N ≤ n0 := by omega
  have hmin : (if (60 : Int) < n0 then (60 : Int) else (n0 : Int)) = N := n1_min hN
  have hw1 : IntKind.i64.wrap ((N : Int) + 1) = (N : Int) + 1 := n1_w1 hN6
  have hw2 : wrap64 ((N : Int) + 1) = (N : Int) + 1 := n1_w2 hN6
  have hbn : ¬ (N : Int) + 1 = 0 := n1_ne N
  have HBX : Hid (Have w (w.alloc (.cells #[.int .i64 x.bt, .int .i64 x.rw, .int .i64 x.wd, .int .i64 x.md, .int .u64 x.sd, .slice A n0 k0] 27)) [boxT w.heap.size 27 #[.int .i64 x.bt, .int .i64 x.rw, .int .i64 x.wd, .int .i64 x.md, .int .u64 x.sd, .slice A n0 k0]]) := Lib.hid (box_new w _ _)
  subst hA
  have HIF : Hid ((if k0 = K then (some ad) else some (ad.add (K * 2))) = some ad) := Lib.hid (if_pos hck)
  have HZ8 : Hid (k0 - K = 0) := Lib.hid (e_z1 hck)
  have HZ9 : Hid (N - K = 0) := Lib.hid (e_z2 hck hNn hnc)
  have hplk : ps.length = K := e_z3 hck hNn hnc hK hpl
  have HPL := Lib.hid hplk
  have HFL : Hid (flatU ps = [] ++ flatU (qs.take K)) := Lib.hid (by rw [hfl, e_z4 hck hNn hnc]; rfl)
  have HCK := Lib.hid hck
  clear hck hplk
  have HL1 : Hid ((flatU ((qs.take N).drop K)).length = (N - K) * 2) := Lib.hid (fl_len1 hnl hNn)
  have HL2 : Hid ((flatU (qs.take K)).length = K * 2) := Lib.hid (fl_len2 hnl hNn hK)
  have hR2 : Hid (RdV w (some ad) (flatU (qs.take K))) := Lib.hid (by rw [hfc2]; exact (upd_rdv hq).take (K * 2))
  clear hr hr0 hC hmd hkeys htn hin hus hsw hZ hTV hpl hpb hps hfl hfc1 hfc2 hfc3 hq hx b1 hnl hN
  go_enter Try.func6, Try.ntmps6
  go_upto_region 8 with (first
    | (go_at_call 10; (with_reducible refine (FD.out _ (HQ.out.up HV1.out.below)).mono ?_); rintro e w2 ⟨p, F, rfl, hv⟩; have HV2 := Lib.hid (HV1.out.join hv); simp only [List.cons_append, List.nil_append] at HV2; clear hv; have HV3 := Lib.hid (HV2.out.push (boxT w2.heap.size 24 #[.int .i64 c.bt, .int .i64 c.rw, .int .i64 c.wd, .int .i64 c.md, .int .u64 c.sd]) (Lw.below_alloc (Below.refl _ _) _) (heap_alloc_new w2 _) (fun k hk => Nat.le_of_eq hk.symm)); clear x0 x1 x2 x3 x4 x5; obtain ⟨x0, x1, x2, x3, x4, x5⟩ := box6 HV3.out.i2)
    | (go_at_call 9; (with_reducible refine (shown_any _).mono ?_); rintro e w1 ⟨rfl, hb⟩; have HV1 := Lib.hid (HBX.out.up hb); clear hb; obtain ⟨x0, x1, x2, x3, x4, x5⟩ := box6 HV1.out.i0))
  obtain ⟨gc, hgc⟩ : ∃ g, w2.heap.size = g := ⟨_, rfl⟩
  rw [hgc] at HV3 ⊢
  obtain ⟨w3, hw3⟩ : ∃ w3, w3 = w2.alloc (.cells #[.int .i64 c.bt, .int .i64 c.rw, .int .i64 c.wd, .int .i64 c.md, .int .u64 c.sd] 24) := ⟨_, rfl⟩
  rw [← hw3] at HV3 x0 x1 x2 x3 x4 x5 ⊢
  clear hw3 hgc HV2 HV1 HBX FD hw1 hw2 hbn hmin a1 dd
  have hbw3 := HV3.out.below
  skip
  have hs0 : (0 : Int) ≤ (K : Int) := by omega
  have hs1 : (K : Int) ≤ (N : Int) := by omega
  have hs2 : (N : Int) ≤ (k0 : Int) := by omega
  have hs3 : (K : Int) ≤ (k0 : Int) := by omega
  have hs4 : ¬ (N : Int) < (K : Int) := by omega
  have hs5 : ¬ (k0 : Int) < (N : Int) := by omega
  have hs6 : ¬ (k0 : Int) < (K : Int) := by omega
  go_cut [12] (fun s12 wx => ∃ (gp : Nat) (A5 : Option Addr) (cap5 : Nat), s12 = .pointer (some ⟨gp, 0, none⟩) ∧ Have w wx [boxT gp 27 #[.int .i64 x.bt, .int .i64 x.rw, .int .i64 x.wd, .int .i64 x.md, .int .u64 x.sd, .slice A5 K cap5], upT A5 K cap5 ps, boxT gc 24 #[.int .i64 c.bt, .int .i64 c.rw, .int .i64 c.wd, .int .i64 c.md, .int .u64 c.sd], stT p F c Z, boxT w.heap.size 27 #[.int .i64 x.bt, .int .i64 x.rw, .int .i64 x.wd, .int .i64 x.md, .int .u64 x.sd, .slice (some ad) n0 k0]])
  case first =>
    have hif := HIF.out
    have hz8 := HZ8.out
    have hz9 := HZ9.out
    go_region_held3 (fun w' => w'.cell? ⟨w.heap.size, 0, none⟩ = some (.int .i64 x.bt) ∧ w'.cell? ⟨w.heap.size, 1, none⟩ = some (.int .i64 x.rw) ∧ w'.cell? ⟨w.heap.size, 2, none⟩ = some (.int .i64 x.wd) ∧ w'.cell? ⟨w.heap.size, 3, none⟩ = some (.int .i64 x.md) ∧ w'.cell? ⟨w.heap.size, 4, none⟩ = some (.int .u64 x.sd) ∧ w'.cell? ⟨w.heap.size, 5, none⟩ = some (.slice (some ad) n0 k0)) (first | (refine ⟨?_, ?_, ?_, ?_, ?_, ?_⟩ <;> (first | (with_reducible assumption) | (with_reducible refine cell_up x0 ?_) | (with_reducible refine cell_up x1 ?_) | (with_reducible refine cell_up x2 ?_) | (with_reducible refine cell_up x3 ?_) | (with_reducible refine cell_up x4 ?_) | (with_reducible refine cell_up x5 ?_)) <;> (repeat' (first | (with_reducible exact Below.refl _ _) | (with_reducible assumption) | (with_reducible refine below_over ?_ _ _) | (with_reducible refine Lw.below_alloc ?_ _) | (with_reducible refine Below.drew ?_) | (with_reducible refine below_drewN ?_ _) | (with_reducible refine Below.setCell ?_ ?_ _) | go_size)))) (first
      | (refine appv_step rfl _ _ 25 rfl w3.heap.size 36 i0 (.agg #[.int .u64 0, .int .i64 0]) 2 16 upds_u hi hz0 hz1 hz2 rfl (by decide) (.slice (some ⟨w3.heap.size, 0, none⟩) 0 0) 0 [] rfl (own_empty w3.drew _ _ _ (Nat.le_refl _)) (fun h => by cases h) (some ad) 0 0 [] rfl (by simp) (by simp) (RdV.nil _ _) (by simp) (by unfold maxLen; omega) (by omega) (by first | (simp; done) | (simp; omega)) ?_; intro A4 cap4 w4 hown4 hgrow4; have hb4 : Below w3.heap.size w3 w4 := app_below2 (show Below w3.heap.size w3 (w3.drew.alloc (.cells #[] 36)) from (by repeat' (first | (with_reducible exact Below.refl _ _) | (with_reducible assumption) | (with_reducible refine below_over ?_ _ _) | (with_reducible refine Lw.below_alloc ?_ _) | (with_reducible refine Below.drew ?_) | (with_reducible refine below_drewN ?_ _) | (with_reducible refine Below.setCell ?_ ?_ _) | go_size))) hgrow4 (Nat.le_refl _); (try simp only [Nat.zero_add, List.nil_append] at hown4); (try simp only [Nat.zero_add]))
      | (refine appv_step rfl _ _ 25 rfl w3.heap.size 36 i0 (.agg #[.int .u64 0, .int .i64 0]) 2 16 upds_u hi hz0 hz1 hz2 rfl (by decide) (.slice (some ⟨w3.heap.size, 0, none⟩) 0 0) 0 [] rfl ((own_empty w3.drew _ _ _ (Nat.le_refl _)).alloc _) (fun h => by cases h) (some ad) 0 0 [] rfl (by simp) (by simp) (RdV.nil _ _) (by simp) (by unfold maxLen; omega) (by omega) (by first | (simp; done) | (simp; omega)) ?_; intro A4 cap4 w4 hown4 hgrow4; have hb4 : Below w3.heap.size w3 w4 := app_below2 (show Below w3.heap.size w3 ((w3.drew.alloc (.cells #[] 36)).alloc (.cells #[.int .i64 0, .int .i64 0, .int .i64 0, .int .i64 0, .int .u64 0, .slice none 0 0] 27)) from (by repeat' (first | (with_reducible exact Below.refl _ _) | (with_reducible assumption) | (with_reducible refine below_over ?_ _ _) | (with_reducible refine Lw.below_alloc ?_ _) | (with_reducible refine Below.drew ?_) | (with_reducible refine below_drewN ?_ _) | (with_reducible refine Below.setCell ?_ ?_ _) | go_size))) hgrow4 (Nat.le_refl _); have hgB : w4.heap[w3.heap.size + 1]? = some (.cells #[.int .i64 0, .int .i64 0, .int .i64 0, .int .i64 0, .int .u64 0, .slice none 0 0] 27 (0, 0)) := (hgrow4.block _ (by simp) (fun e => by injection e with e; simp at e)).trans (by first | exact pc_alloc3 w3 _ _ _ | exact pc_alloc2 (by simp)); have hgb2 : w3.heap.size ≤ w3.heap.size + 1 := (by omega); (try simp only [Nat.zero_add, List.nil_append] at hown4); (try simp only [Nat.zero_add]))
      | (refine appv_step rfl _ _ 25 rfl w3.heap.size 36 i0 (.agg #[.int .u64 0, .int .i64 0]) 2 16 upds_u hi hz0 hz1 hz2 rfl (by decide) (.slice (some ⟨w3.heap.size + 1, 0, none⟩) 0 0) 0 [] rfl (own_empty2 w3.drew (.cells #[.int .i64 0, .int .i64 0, .int .i64 0, .int .i64 0, .int .u64 0, .slice none 0 0] 27) _ _ _ (Nat.le_refl _)) (fun h => by cases h) (some ad) 0 0 [] rfl (by simp) (by simp) (RdV.nil _ _) (by simp) (by unfold maxLen; omega) (by omega) (by first | (simp; done) | (simp; omega)) ?_; intro A4 cap4 w4 hown4 hgrow4; have hb4 : Below w3.heap.size w3 w4 := app_below2 (show Below w3.heap.size w3 ((w3.drew.alloc (.cells #[.int .i64 0, .int .i64 0, .int .i64 0, .int .i64 0, .int .u64 0, .slice none 0 0] 27)).alloc (.cells #[] 36)) from (by repeat' (first | (with_reducible exact Below.refl _ _) | (with_reducible assumption) | (with_reducible refine below_over ?_ _ _) | (with_reducible refine Lw.below_alloc ?_ _) | (with_reducible refine Below.drew ?_) | (with_reducible refine below_drewN ?_ _) | (with_reducible refine Below.setCell ?_ ?_ _) | go_size))) hgrow4 (Nat.le_succ _); have hgB : w4.heap[w3.heap.size]? = some (.cells #[.int .i64 0, .int .i64 0, .int .i64 0, .int .i64 0, .int .u64 0, .slice none 0 0] 27 (0, 0)) := (hgrow4.block _ (by simp) (fun e => by injection e with e; simp at e)).trans (by first | exact pc_alloc3 w3 _ _ _ | exact pc_alloc2 (by simp)); have hgb2 : w3.heap.size ≤ w3.heap.size := (by omega); (try simp only [Nat.zero_add, List.nil_append] at hown4); (try simp only [Nat.zero_add]))
      | (refine appv_step rfl _ _ 25 rfl w3.heap.size 36 i0 (.agg #[.int .u64 0, .int .i64 0]) 2 16 upds_u hi hz0 hz1 hz2 rfl (by decide) (.slice (some A4) 0 cap4) 0 [] rfl (hown4.alloc _) (fun h => by cases h) (some ad) K k0 (flatU (qs.take K)) rfl (by simp) HL2.out (hR2.out.up (by have hb4w : Below w.heap.size w w4 := below_call hbw3 hb4 (Nat.le_refl _); repeat' (first | (with_reducible exact Below.refl _ _) | (with_reducible assumption) | (with_reducible refine below_over ?_ _ _) | (with_reducible refine Lw.below_alloc ?_ _) | (with_reducible refine Below.drew ?_) | (with_reducible refine below_drewN ?_ _) | (with_reducible refine Below.setCell ?_ ?_ _) | go_size))) (flatU_one _) (by unfold maxLen; omega) (by omega) (Lw.below_alloc hb4 (.cells #[.int .i64 0, .int .i64 0, .int .i64 0, .int .i64 0, .int .u64 0, .slice none 0 0] 27)).size ?_; intro A5 cap5 w5 hown5 hgrow5; have hb5 : Below w3.heap.size w3 w5 := (Lw.below_alloc hb4 (.cells #[.int .i64 0, .int .i64 0, .int .i64 0, .int .i64 0, .int .u64 0, .slice none 0 0] 27)).grown hgrow5 (Lw.below_alloc hb4 (.cells #[.int .i64 0, .int .i64 0, .int .i64 0, .int .i64 0, .int .u64 0, .slice none 0 0] 27)).size (fun k hk => own_ge hown4 k hk); rw [← HFL.out, Nat.zero_add] at hown5; have hg9 : w5.heap[w4.heap.size]? = some (.cells #[.int .i64 0, .int .i64 0, .int .i64 0, .int .i64 0, .int .u64 0, .slice none 0 0] 27 (0, 0)) := (hgrow5.block _ (by simp) (fun e => by have h9 := own_lt hown4 e.symm; omega)).trans (heap_alloc_new _ _); have hgp : w3.heap.size ≤ w4.heap.size := hb4.size; have HE := Lib.hid (ord_end HV3.out hb5 hown5 HPL.out HPB.out hg9 hgp); have z0 := boxs_frozen HE.out.i0 0; have z1 := boxs_frozen HE.out.i0 1; have z2 := boxs_frozen HE.out.i0 2; have z3 := boxs_frozen HE.out.i0 3; have z4 := boxs_frozen HE.out.i0 4; have z5 := boxs_frozen HE.out.i0 5; obtain ⟨y0, y1, y2, y3, y4, y5⟩ := box6 HE.out.i0)
      | (refine appv_step rfl _ _ 25 rfl w3.heap.size 36 i0 (.agg #[.int .u64 0, .int .i64 0]) 2 16 upds_u hi hz0 hz1 hz2 rfl (by decide) (.slice (some A4) 0 cap4) 0 [] rfl (hown4) (fun h => by cases h) (some ad) K k0 (flatU (qs.take K)) rfl (by simp) HL2.out (hR2.out.up (by have hb4w : Below w.heap.size w w4 := below_call hbw3 hb4 (Nat.le_refl _); repeat' (first | (with_reducible exact Below.refl _ _) | (with_reducible assumption) | (with_reducible refine below_over ?_ _ _) | (with_reducible refine Lw.below_alloc ?_ _) | (with_reducible refine Below.drew ?_) | (with_reducible refine below_drewN ?_ _) | (with_reducible refine Below.setCell ?_ ?_ _) | go_size))) (flatU_one _) (by unfold maxLen; omega) (by omega) hb4.size ?_; intro A5 cap5 w5 hown5 hgrow5; have hb5 : Below w3.heap.size w3 w5 := hb4.grown hgrow5 hb4.size (fun k hk => own_ge hown4 k hk); rw [← HFL.out, Nat.zero_add] at hown5; have hg9 := (hgrow5.block _ (hp_lt2 hgB) (fun e => own_type hown4 e.symm hgB (by decide))).trans hgB; have HE := Lib.hid (ord_end HV3.out hb5 hown5 HPL.out HPB.out hg9 hgb2); have z0 := boxs_frozen HE.out.i0 0; have z1 := boxs_frozen HE.out.i0 1; have z2 := boxs_frozen HE.out.i0 2; have z3 := boxs_frozen HE.out.i0 3; have z4 := boxs_frozen HE.out.i0 4; have z5 := boxs_frozen HE.out.i0 5; obtain ⟨y0, y1, y2, y3, y4, y5⟩ := box6 HE.out.i0)
      | (refine appv_step rfl _ _ 25 rfl w3.heap.size 36 i0 (.agg #[.int .u64 0, .int .i64 0]) 2 16 upds_u hi hz0 hz1 hz2 rfl (by decide) (.slice (some A4) 0 cap4) 0 [] rfl (hown4) (fun h => by cases h) (some ad) K k0 (flatU (qs.take K)) rfl (by simp) HL2.out (hR2.out.up (by have hb4w : Below w.heap.size w w4 := below_call hbw3 hb4 (Nat.le_refl _); repeat' (first | (with_reducible exact Below.refl _ _) | (with_reducible assumption) | (with_reducible refine below_over ?_ _ _) | (with_reducible refine Lw.below_alloc ?_ _) | (with_reducible refine Below.drew ?_) | (with_reducible refine below_drewN ?_ _) | (with_reducible refine Below.setCell ?_ ?_ _) | go_size))) (flatU_one _) (by unfold maxLen; omega) (by omega) hb4.size ?_; intro A5 cap5 w5 hown5 hgrow5; have hb5 : Below w3.heap.size w3 w5 := hb4.grown hgrow5 hb4.size (fun k hk => own_ge hown4 k hk); rw [← HFL.out, Nat.zero_add] at hown5; have HE := Lib.hid (ord_end2 HV3.out hb5 hown5 HPL.out HPB.out)))
    all_goals go_wp2
    all_goals go_meet
    all_goals refine ⟨_, some A5, cap5, rfl, ?_⟩
    all_goals first
      | with_reducible exact turn6 HE.out _ _ _ _ _ _
      | with_reducible exact push_box HE.out _ _
  case rest =>
    obtain ⟨gp, A5, cap5, rfl, hv⟩ := hcut
    have HV6 := Lib.hid hv
    clear hv hs0 hs1 hs2 hs3 hs4 hs5 hs6 hcm hnc hN6 hNn hz0 hz1 hz2 x0 x1 x2 x3 x4 x5 hbw3
    obtain ⟨y0, y1, y2, y3, y4, y5⟩ := box6 HV6.out.i0
    go_wp2_with ((go_at_call 10; (with_reducible refine (FD2.out A5 K cap5 _ (upI HV6.out.i1)).mono ?_); rintro e w7 ⟨q, G, rfl, hv⟩; have HV7 := Lib.hid (HV6.out.join hv); simp only [List.cons_append, List.nil_append] at HV7; clear hv))
    obtain ⟨gd, hgd⟩ : ∃ g, w7.heap.size = g := ⟨_, rfl⟩
    have hv8 := HV7.out.push (boxT w7.heap.size 24 #[.int .i64 c.bt, .int .i64 c.rw, .int .i64 c.wd, .int .i64 c.md, .int .u64 c.sd]) (Lw.below_alloc (Below.refl _ _) _) (heap_alloc_new w7 _) (fun k hk => Nat.le_of_eq hk.symm)
    rw [hgd] at hv8 ⊢
    have HV8 : Hid (Have w (w7.alloc (.cells #[.int .i64 c.bt, .int .i64 c.rw, .int .i64 c.wd, .int .i64 c.md, .int .u64 c.sd] 24)) [stT q G c Z, boxT gc 24 #[.int .i64 c.bt, .int .i64 c.rw, .int .i64 c.wd, .int .i64 c.md, .int .u64 c.sd], stT p F c Z]) := Lib.hid (pick3 hv8)
    obtain ⟨w8, hw8⟩ : ∃ w8, w8 = w7.alloc (.cells #[.int .i64 c.bt, .int .i64 c.rw, .int .i64 c.wd, .int .i64 c.md, .int .u64 c.sd] 24) := ⟨_, rfl⟩
    rw [← hw8] at HV8 ⊢
    clear hv8 hgd hw8 y0 y1 y2 y3 y4 y5 HV6 HV7 HV3 FD2
    go_loopw [15] (fun iv wr => ∃ n : Nat, (n : Int) ≤ c.bt + 1 ∧ iv = .int .i64 n ∧ Have w wr [stT q G c Z, boxT gc 24 #[.int .i64 c.bt, .int .i64 c.rw, .int .i64 c.wd, .int .i64 c.md, .int .u64 c.sd], stT p F c Z]) (fun iv _ => 100 - (intOf iv).toNat)
    case atStart => exact ⟨0, by omega, rfl, HV8.out⟩
    case round =>
      obtain ⟨n, hn, rfl, hv⟩ := hrel
      have HVr := Lib.hid hv
      clear hv
      obtain ⟨e1, e2, e3, e4, e5⟩ := box5 HVr.out.i1
      by_cases hlt : (n : Int) ≤ c.bt
      · obtain ⟨LL, hLL⟩ : ∃ LL, lvFl Z n = LL := ⟨_, rfl⟩
        have hlv := HLV.out n hlt
        rw [hLL] at hlv
        have HL1 := Lib.hid hlv.1
        have HL2 := Lib.hid hlv.2
        have CR := Lib.hid (fun p F w hs => cs_row p F c Z n LL w hs (by omega) hLL hlv.1 hlv.2)
        have hwn1 : IntKind.i64.wrap ((n : Int) + 1) = ((n + 1 : Nat) : Int) := nx_w1 (by omega)
        have hwn2 : wrap64 ((n : Int) + 1) = ((n + 1 : Nat) : Int) := nx_w2 (by omega)
        have hdl : decide (LL = LL) = true := decide_eq_true rfl
        clear hlv hLL
        go_wp2_with (first
          | (go_at_call 15; (with_reducible refine (rsame_any _ _ _ _ _ _ LL LL _ (rdI HVb.out.i1) (rdI HVb.out.i0) rfl rfl (le_trans64 HL2.out) (le_trans64 HL2.out)).mono ?_); rintro e wc ⟨rfl, hb⟩; have HVc := Lib.hid (HVb.out.up hb); clear hb)
          | (go_at_call 16; (with_reducible refine (CR.out q G _ (stI HVa.out.i1)).mono ?_); rintro e wb ⟨Ab, cb, rfl, h1, h2, hb⟩; have HVb := Lib.hid (HVa.out.push (rdT Ab LL) hb h1 h2); clear h1 h2 hb)
          | (go_at_call 16; (with_reducible refine (CR.out p F _ (stI HVr.out.i2)).mono ?_); rintro e wa ⟨Aa, ca, rfl, h1, h2, hb⟩; have HVa := Lib.hid (HVr.out.push (rdT Aa LL) hb h1 h2); clear h1 h2 hb))
        go_roundw
        case rel => exact ⟨n + 1, by omega, by go_num, HVc.out.drop_0.drop_0⟩
        case measure => simp [intOf]; omega
      · go_wp2_with (first
          | (go_at_call 18; (with_reducible refine (CTO.out q G _ (stI HVa.out.i0)).mono ?_); rintro e wb ⟨rfl, hb⟩; have HVb := Lib.hid (HVa.out.up hb); clear hb)
          | (go_at_call 18; (with_reducible refine (CTO.out p F _ (stI HVr.out.i2)).mono ?_); rintro e wa ⟨rfl, hb⟩; have HVa := Lib.hid (HVr.out.up hb); clear hb))
        go_ret
        exact ⟨ret_bs (by first | rfl | (simp [*]; done)), HVb.out.below⟩

set_option maxRecDepth 100000 in
set_option maxHeartbeats 16000000 in
theorem ord_n_true (x : Cfg) (at' : Int) (w : World) (hx : x.Ok) (hq : UpdV w none 0 0 []) (X : Int) (a1 : bits .and .i64 at' 65535 = X) (b1 : 0 ≤ X) (dd : Int.tmod X 1 = 0) :
    Calls Try.prog 6 #[.agg #[.int .i64 x.bt, .int .i64 x.rw, .int .i64 x.wd, .int .i64 x.md, .int .u64 x.sd, .slice none 0 0], .int .i64 at', .bool true] w fun e w' => e = .returned (.bool true) ∧ Below w.heap.size w w' := by
  obtain ⟨c, hC⟩ : ∃ c, { anyC x 10 9 with md := 3 } = c := ⟨_, rfl⟩
  have hr0 := any_right x 10 9 (by omega) (by omega) (by omega) (by omega)
  have hr : IsRight c := by rw [← hC]; exact ⟨hr0.1, hr0.2.1, hr0.2.2.1, hr0.2.2.2.1, hr0.2.2.2.2.1, hr0.2.2.2.2.2.1, (by show (1 : Int) ≤ 3; omega), (by show (3 : Int) ≤ 3; omega)⟩
  have hmd : c.md = 3 := by rw [← hC]
  have hbt := hr.1
  have hb5 := hr.2.1
  have hkeys : 1 ≤ keys c 0 := keys_pos.2 ⟨hr, by omega, by omega⟩
  have FD := Lib.hid (fun w hq => fed_m x none 0 0 [] 3 (by omega) (by omega) 0 60 0 60 c w hx hq rfl rfl (by omega) (by omega) hC)
  have hnl := hq.len
  obtain ⟨ps, hps⟩ : ∃ ps, (([] : Ups).take 0).drop 0 ++ ([] : Ups).take 0 = ps := ⟨_, rfl⟩
  have FD2 := Lib.hid (fun B m q w hq => fed_m x B m q ps 3 (by omega) (by omega) 0 60 0 60 c w hx hq rfl rfl (by omega) (by omega) hC)
  have hin := upsR_in hkeys ([] : Ups) 0 60
  have htn := @upsR_turn c 0 [] 0 0 rfl (Nat.le_refl _)
  rw [hps] at htn
  obtain ⟨us, hus⟩ : ∃ us, upsR c 0 ([] : Ups) 0 60 = us := ⟨_, rfl⟩
  rw [hus] at FD htn hin
  have hsw : stsOf c (upsR c 0 ps 0 60) = stsOf c us := by
    have h1 := stsOf_swap hr (by omega) (us := us.take 0) (vs := us.drop 0) (by rw [List.take_append_drop]; exact hin)
    rw [List.take_append_drop] at h1
    rw [htn, h1]
  rw [hsw] at FD2
  have HLV := Lib.hid (fun (n : Nat) (hn : (n : Int) ≤ c.bt) => lv_size hr hin (n := n) hn)
  obtain ⟨Z, hZ⟩ : ∃ Z, stsOf c us = Z := ⟨_, rfl⟩
  rw [hZ] at FD FD2 HLV
  have CTO := Lib.hid (fun p F w hs => cs_total p F c Z w hs)
  obtain ⟨TV, hTV⟩ : ∃ v, spV c Z c.bt 0 = v := ⟨_, rfl⟩
  rw [hTV] at CTO
  have hpl : ps.length = 0 := by rw [← hps]; rfl
  have hpb : ∀ u ∈ ps, (0 ≤ u.1 ∧ u.1 ≤ 18446744073709551615) ∧ (-9223372036854775808 ≤ u.2 ∧ u.2 ≤ 9223372036854775807) := by
    intro u hu
    rw [← hps] at hu
    have hm : u ∈ ([] : Ups) := by
      rcases List.mem_append.1 hu with g | g
      · exact List.mem_of_mem_take (List.mem_of_mem_drop g)
      · exact List.mem_of_mem_take g
    obtain ⟨i, hi⟩ := List.getElem?_of_mem hm
    obtain ⟨_, _, _, _, _, _, _, g1, g2⟩ := hq.at hi
    exact ⟨g1, g2⟩
  have HPB := Lib.hid hpb
  have hfl : flatU ps = flatU ((([] : Ups).take 0).drop 0) ++ flatU (([] : Ups).take 0) := by rw [← hps]; unfold flatU; rw [List.flatMap_append]
  have hfc1 := (flatU_cut (([] : Ups).take 0) 0).2
  have hfc2 := (flatU_cut ([] : Ups) 0).1
  have hfc3 := (flatU_cut ([] : Ups) 0).1
  have HQ := Lib.hid hq
  have hnc := hq.nc
  have hcm := hq.cm
  unfold maxLen at hcm
  obtain ⟨i0, hi, hz0, hz1, hz2⟩ := info_parts upd_info
  have HBX : Hid (Have w (w.alloc (.cells #[.int .i64 x.bt, .int .i64 x.rw, .int .i64 x.wd, .int .i64 x.md, .int .u64 x.sd, .slice none 0 0] 27)) [boxT w.heap.size 27 #[.int .i64 x.bt, .int .i64 x.rw, .int .i64 x.wd, .int .i64 x.md, .int .u64 x.sd, .slice none 0 0]]) := Lib.hid (box_new w _ _)
  have HPL := Lib.hid hpl
  have HFL : Hid (flatU ps = [] ++ []) := Lib.hid (by rw [hfl]; rfl)
  clear hr hr0 hC hmd hkeys htn hin hus hsw hZ hTV hpl hpb hps hfl hfc1 hfc2 hfc3 hq hx b1 hnl
  go_enter Try.func6, Try.ntmps6
  go_upto_region 8 with (first
    | (go_at_call 10; (with_reducible refine (FD.out _ (HQ.out.up HV1.out.below)).mono ?_); rintro e w2 ⟨p, F, rfl, hv⟩; have HV2 := Lib.hid (HV1.out.join hv); simp only [List.cons_append, List.nil_append] at HV2; clear hv; have HV3 := Lib.hid (HV2.out.push (boxT w2.heap.size 24 #[.int .i64 c.bt, .int .i64 c.rw, .int .i64 c.wd, .int .i64 c.md, .int .u64 c.sd]) (Lw.below_alloc (Below.refl _ _) _) (heap_alloc_new w2 _) (fun k hk => Nat.le_of_eq hk.symm)); clear x0 x1 x2 x3 x4 x5; obtain ⟨x0, x1, x2, x3, x4, x5⟩ := box6 HV3.out.i2)
    | (go_at_call 9; (with_reducible refine (shown_any _).mono ?_); rintro e w1 ⟨rfl, hb⟩; have HV1 := Lib.hid (HBX.out.up hb); clear hb; obtain ⟨x0, x1, x2, x3, x4, x5⟩ := box6 HV1.out.i0))
  obtain ⟨gc, hgc⟩ : ∃ g, w2.heap.size = g := ⟨_, rfl⟩
  rw [hgc] at HV3 ⊢
  obtain ⟨w3, hw3⟩ : ∃ w3, w3 = w2.alloc (.cells #[.int .i64 c.bt, .int .i64 c.rw, .int .i64 c.wd, .int .i64 c.md, .int .u64 c.sd] 24) := ⟨_, rfl⟩
  rw [← hw3] at HV3 x0 x1 x2 x3 x4 x5 ⊢
  clear hw3 hgc HV2 HV1 HBX FD     a1 dd
  have hbw3 := HV3.out.below
  skip
  go_cut [12] (fun s12 wx => ∃ (gp : Nat) (A5 : Option Addr) (cap5 : Nat), s12 = .pointer (some ⟨gp, 0, none⟩) ∧ Have w wx [boxT gp 27 #[.int .i64 x.bt, .int .i64 x.rw, .int .i64 x.wd, .int .i64 x.md, .int .u64 x.sd, .slice A5 0 cap5], upT A5 0 cap5 ps, boxT gc 24 #[.int .i64 c.bt, .int .i64 c.rw, .int .i64 c.wd, .int .i64 c.md, .int .u64 c.sd], stT p F c Z, boxT w.heap.size 27 #[.int .i64 x.bt, .int .i64 x.rw, .int .i64 x.wd, .int .i64 x.md, .int .u64 x.sd, .slice none 0 0]])
  case first =>
    skip
    skip
    skip
    go_region_held3 (fun w' => w'.cell? ⟨w.heap.size, 0, none⟩ = some (.int .i64 x.bt) ∧ w'.cell? ⟨w.heap.size, 1, none⟩ = some (.int .i64 x.rw) ∧ w'.cell? ⟨w.heap.size, 2, none⟩ = some (.int .i64 x.wd) ∧ w'.cell? ⟨w.heap.size, 3, none⟩ = some (.int .i64 x.md) ∧ w'.cell? ⟨w.heap.size, 4, none⟩ = some (.int .u64 x.sd) ∧ w'.cell? ⟨w.heap.size, 5, none⟩ = some (.slice none 0 0)) (first | (refine ⟨?_, ?_, ?_, ?_, ?_, ?_⟩ <;> (first | (with_reducible assumption) | (with_reducible refine cell_up x0 ?_) | (with_reducible refine cell_up x1 ?_) | (with_reducible refine cell_up x2 ?_) | (with_reducible refine cell_up x3 ?_) | (with_reducible refine cell_up x4 ?_) | (with_reducible refine cell_up x5 ?_)) <;> (repeat' (first | (with_reducible exact Below.refl _ _) | (with_reducible assumption) | (with_reducible refine below_over ?_ _ _) | (with_reducible refine Lw.below_alloc ?_ _) | (with_reducible refine Below.drew ?_) | (with_reducible refine below_drewN ?_ _) | (with_reducible refine Below.setCell ?_ ?_ _) | go_size)))) (first
      | (refine appv_step rfl _ _ 25 rfl w3.heap.size 36 i0 (.agg #[.int .u64 0, .int .i64 0]) 2 16 upds_u hi hz0 hz1 hz2 rfl (by decide) (.slice (some ⟨w3.heap.size, 0, none⟩) 0 0) 0 [] rfl (own_empty w3.drew _ _ _ (Nat.le_refl _)) (fun h => by cases h) none 0 0 [] rfl (by simp) (by simp) (RdV.nil _ _) (by simp) (by unfold maxLen; omega) (by omega) (by first | (simp; done) | (simp; omega)) ?_; intro A4 cap4 w4 hown4 hgrow4; have hb4 : Below w3.heap.size w3 w4 := app_below2 (show Below w3.heap.size w3 (w3.drew.alloc (.cells #[] 36)) from (by repeat' (first | (with_reducible exact Below.refl _ _) | (with_reducible assumption) | (with_reducible refine below_over ?_ _ _) | (with_reducible refine Lw.below_alloc ?_ _) | (with_reducible refine Below.drew ?_) | (with_reducible refine below_drewN ?_ _) | (with_reducible refine Below.setCell ?_ ?_ _) | go_size))) hgrow4 (Nat.le_refl _); (try simp only [Nat.zero_add, List.nil_append] at hown4); (try simp only [Nat.zero_add]))
      | (refine appv_step rfl _ _ 25 rfl w3.heap.size 36 i0 (.agg #[.int .u64 0, .int .i64 0]) 2 16 upds_u hi hz0 hz1 hz2 rfl (by decide) (.slice (some ⟨w3.heap.size, 0, none⟩) 0 0) 0 [] rfl ((own_empty w3.drew _ _ _ (Nat.le_refl _)).alloc _) (fun h => by cases h) none 0 0 [] rfl (by simp) (by simp) (RdV.nil _ _) (by simp) (by unfold maxLen; omega) (by omega) (by first | (simp; done) | (simp; omega)) ?_; intro A4 cap4 w4 hown4 hgrow4; have hb4 : Below w3.heap.size w3 w4 := app_below2 (show Below w3.heap.size w3 ((w3.drew.alloc (.cells #[] 36)).alloc (.cells #[.int .i64 0, .int .i64 0, .int .i64 0, .int .i64 0, .int .u64 0, .slice none 0 0] 27)) from (by repeat' (first | (with_reducible exact Below.refl _ _) | (with_reducible assumption) | (with_reducible refine below_over ?_ _ _) | (with_reducible refine Lw.below_alloc ?_ _) | (with_reducible refine Below.drew ?_) | (with_reducible refine below_drewN ?_ _) | (with_reducible refine Below.setCell ?_ ?_ _) | go_size))) hgrow4 (Nat.le_refl _); have hgB : w4.heap[w3.heap.size + 1]? = some (.cells #[.int .i64 0, .int .i64 0, .int .i64 0, .int .i64 0, .int .u64 0, .slice none 0 0] 27 (0, 0)) := (hgrow4.block _ (by simp) (fun e => by injection e with e; simp at e)).trans (by first | exact pc_alloc3 w3 _ _ _ | exact pc_alloc2 (by simp)); have hgb2 : w3.heap.size ≤ w3.heap.size + 1 := (by omega); (try simp only [Nat.zero_add, List.nil_append] at hown4); (try simp only [Nat.zero_add]))
      | (refine appv_step rfl _ _ 25 rfl w3.heap.size 36 i0 (.agg #[.int .u64 0, .int .i64 0]) 2 16 upds_u hi hz0 hz1 hz2 rfl (by decide) (.slice (some ⟨w3.heap.size + 1, 0, none⟩) 0 0) 0 [] rfl (own_empty2 w3.drew (.cells #[.int .i64 0, .int .i64 0, .int .i64 0, .int .i64 0, .int .u64 0, .slice none 0 0] 27) _ _ _ (Nat.le_refl _)) (fun h => by cases h) none 0 0 [] rfl (by simp) (by simp) (RdV.nil _ _) (by simp) (by unfold maxLen; omega) (by omega) (by first | (simp; done) | (simp; omega)) ?_; intro A4 cap4 w4 hown4 hgrow4; have hb4 : Below w3.heap.size w3 w4 := app_below2 (show Below w3.heap.size w3 ((w3.drew.alloc (.cells #[.int .i64 0, .int .i64 0, .int .i64 0, .int .i64 0, .int .u64 0, .slice none 0 0] 27)).alloc (.cells #[] 36)) from (by repeat' (first | (with_reducible exact Below.refl _ _) | (with_reducible assumption) | (with_reducible refine below_over ?_ _ _) | (with_reducible refine Lw.below_alloc ?_ _) | (with_reducible refine Below.drew ?_) | (with_reducible refine below_drewN ?_ _) | (with_reducible refine Below.setCell ?_ ?_ _) | go_size))) hgrow4 (Nat.le_succ _); have hgB : w4.heap[w3.heap.size]? = some (.cells #[.int .i64 0, .int .i64 0, .int .i64 0, .int .i64 0, .int .u64 0, .slice none 0 0] 27 (0, 0)) := (hgrow4.block _ (by simp) (fun e => by injection e with e; simp at e)).trans (by first | exact pc_alloc3 w3 _ _ _ | exact pc_alloc2 (by simp)); have hgb2 : w3.heap.size ≤ w3.heap.size := (by omega); (try simp only [Nat.zero_add, List.nil_append] at hown4); (try simp only [Nat.zero_add]))
      | (refine appv_step rfl _ _ 25 rfl w3.heap.size 36 i0 (.agg #[.int .u64 0, .int .i64 0]) 2 16 upds_u hi hz0 hz1 hz2 rfl (by decide) (.slice (some A4) 0 cap4) 0 [] rfl (hown4.alloc _) (fun h => by cases h) none 0 0 [] rfl (by simp) (by simp) (RdV.nil _ _) (by simp) (by unfold maxLen; omega) (by omega) (Lw.below_alloc hb4 (.cells #[.int .i64 0, .int .i64 0, .int .i64 0, .int .i64 0, .int .u64 0, .slice none 0 0] 27)).size ?_; intro A5 cap5 w5 hown5 hgrow5; have hb5 : Below w3.heap.size w3 w5 := (Lw.below_alloc hb4 (.cells #[.int .i64 0, .int .i64 0, .int .i64 0, .int .i64 0, .int .u64 0, .slice none 0 0] 27)).grown hgrow5 (Lw.below_alloc hb4 (.cells #[.int .i64 0, .int .i64 0, .int .i64 0, .int .i64 0, .int .u64 0, .slice none 0 0] 27)).size (fun k hk => own_ge hown4 k hk); rw [← HFL.out] at hown5; have hg9 : w5.heap[w4.heap.size]? = some (.cells #[.int .i64 0, .int .i64 0, .int .i64 0, .int .i64 0, .int .u64 0, .slice none 0 0] 27 (0, 0)) := (hgrow5.block _ (by simp) (fun e => by have h9 := own_lt hown4 e.symm; omega)).trans (heap_alloc_new _ _); have hgp : w3.heap.size ≤ w4.heap.size := hb4.size; have HE := Lib.hid (ord_end HV3.out hb5 hown5 HPL.out HPB.out hg9 hgp); have z0 := boxs_frozen HE.out.i0 0; have z1 := boxs_frozen HE.out.i0 1; have z2 := boxs_frozen HE.out.i0 2; have z3 := boxs_frozen HE.out.i0 3; have z4 := boxs_frozen HE.out.i0 4; have z5 := boxs_frozen HE.out.i0 5; obtain ⟨y0, y1, y2, y3, y4, y5⟩ := box6 HE.out.i0)
      | (refine appv_step rfl _ _ 25 rfl w3.heap.size 36 i0 (.agg #[.int .u64 0, .int .i64 0]) 2 16 upds_u hi hz0 hz1 hz2 rfl (by decide) (.slice (some A4) 0 cap4) 0 [] rfl (hown4) (fun h => by cases h) none 0 0 [] rfl (by simp) (by simp) (RdV.nil _ _) (by simp) (by unfold maxLen; omega) (by omega) hb4.size ?_; intro A5 cap5 w5 hown5 hgrow5; have hb5 : Below w3.heap.size w3 w5 := hb4.grown hgrow5 hb4.size (fun k hk => own_ge hown4 k hk); rw [← HFL.out] at hown5; have hg9 := (hgrow5.block _ (hp_lt2 hgB) (fun e => own_type hown4 e.symm hgB (by decide))).trans hgB; have HE := Lib.hid (ord_end HV3.out hb5 hown5 HPL.out HPB.out hg9 hgb2); have z0 := boxs_frozen HE.out.i0 0; have z1 := boxs_frozen HE.out.i0 1; have z2 := boxs_frozen HE.out.i0 2; have z3 := boxs_frozen HE.out.i0 3; have z4 := boxs_frozen HE.out.i0 4; have z5 := boxs_frozen HE.out.i0 5; obtain ⟨y0, y1, y2, y3, y4, y5⟩ := box6 HE.out.i0)
      | (refine appv_step rfl _ _ 25 rfl w3.heap.size 36 i0 (.agg #[.int .u64 0, .int .i64 0]) 2 16 upds_u hi hz0 hz1 hz2 rfl (by decide) (.slice (some A4) 0 cap4) 0 [] rfl (hown4) (fun h => by cases h) none 0 0 [] rfl (by simp) (by simp) (RdV.nil _ _) (by simp) (by unfold maxLen; omega) (by omega) hb4.size ?_; intro A5 cap5 w5 hown5 hgrow5; have hb5 : Below w3.heap.size w3 w5 := hb4.grown hgrow5 hb4.size (fun k hk => own_ge hown4 k hk); rw [← HFL.out] at hown5; have HE := Lib.hid (ord_end2 HV3.out hb5 hown5 HPL.out HPB.out)))
    all_goals go_wp2
    all_goals go_meet
    all_goals refine ⟨_, some A5, cap5, rfl, ?_⟩
    all_goals first
      | with_reducible exact turn6 HE.out _ _ _ _ _ _
      | with_reducible exact push_box HE.out _ _
  case rest =>
    obtain ⟨gp, A5, cap5, rfl, hv⟩ := hcut
    have HV6 := Lib.hid hv
    clear hv        hcm hnc   hz0 hz1 hz2 x0 x1 x2 x3 x4 x5 hbw3
    obtain ⟨y0, y1, y2, y3, y4, y5⟩ := box6 HV6.out.i0
    go_wp2_with ((go_at_call 10; (with_reducible refine (FD2.out A5 0 cap5 _ (upI HV6.out.i1)).mono ?_); rintro e w7 ⟨q, G, rfl, hv⟩; have HV7 := Lib.hid (HV6.out.join hv); simp only [List.cons_append, List.nil_append] at HV7; clear hv))
    obtain ⟨gd, hgd⟩ : ∃ g, w7.heap.size = g := ⟨_, rfl⟩
    have hv8 := HV7.out.push (boxT w7.heap.size 24 #[.int .i64 c.bt, .int .i64 c.rw, .int .i64 c.wd, .int .i64 c.md, .int .u64 c.sd]) (Lw.below_alloc (Below.refl _ _) _) (heap_alloc_new w7 _) (fun k hk => Nat.le_of_eq hk.symm)
    rw [hgd] at hv8 ⊢
    have HV8 : Hid (Have w (w7.alloc (.cells #[.int .i64 c.bt, .int .i64 c.rw, .int .i64 c.wd, .int .i64 c.md, .int .u64 c.sd] 24)) [stT q G c Z, boxT gc 24 #[.int .i64 c.bt, .int .i64 c.rw, .int .i64 c.wd, .int .i64 c.md, .int .u64 c.sd], stT p F c Z]) := Lib.hid (pick3 hv8)
    obtain ⟨w8, hw8⟩ : ∃ w8, w8 = w7.alloc (.cells #[.int .i64 c.bt, .int .i64 c.rw, .int .i64 c.wd, .int .i64 c.md, .int .u64 c.sd] 24) := ⟨_, rfl⟩
    rw [← hw8] at HV8 ⊢
    clear hv8 hgd hw8 y0 y1 y2 y3 y4 y5 HV6 HV7 HV3 FD2
    go_loopw [15] (fun iv wr => ∃ n : Nat, (n : Int) ≤ c.bt + 1 ∧ iv = .int .i64 n ∧ Have w wr [stT q G c Z, boxT gc 24 #[.int .i64 c.bt, .int .i64 c.rw, .int .i64 c.wd, .int .i64 c.md, .int .u64 c.sd], stT p F c Z]) (fun iv _ => 100 - (intOf iv).toNat)
    case atStart => exact ⟨0, by omega, rfl, HV8.out⟩
    case round =>
      obtain ⟨n, hn, rfl, hv⟩ := hrel
      have HVr := Lib.hid hv
      clear hv
      obtain ⟨e1, e2, e3, e4, e5⟩ := box5 HVr.out.i1
      by_cases hlt : (n : Int) ≤ c.bt
      · obtain ⟨LL, hLL⟩ : ∃ LL, lvFl Z n = LL := ⟨_, rfl⟩
        have hlv := HLV.out n hlt
        rw [hLL] at hlv
        have HL1 := Lib.hid hlv.1
        have HL2 := Lib.hid hlv.2
        have CR := Lib.hid (fun p F w hs => cs_row p F c Z n LL w hs (by omega) hLL hlv.1 hlv.2)
        have hwn1 : IntKind.i64.wrap ((n : Int) + 1) = ((n + 1 : Nat) : Int) := nx_w1 (by omega)
        have hwn2 : wrap64 ((n : Int) + 1) = ((n + 1 : Nat) : Int) := nx_w2 (by omega)
        have hdl : decide (LL = LL) = true := decide_eq_true rfl
        clear hlv hLL
        go_wp2_with (first
          | (go_at_call 15; (with_reducible refine (rsame_any _ _ _ _ _ _ LL LL _ (rdI HVb.out.i1) (rdI HVb.out.i0) rfl rfl (le_trans64 HL2.out) (le_trans64 HL2.out)).mono ?_); rintro e wc ⟨rfl, hb⟩; have HVc := Lib.hid (HVb.out.up hb); clear hb)
          | (go_at_call 16; (with_reducible refine (CR.out q G _ (stI HVa.out.i1)).mono ?_); rintro e wb ⟨Ab, cb, rfl, h1, h2, hb⟩; have HVb := Lib.hid (HVa.out.push (rdT Ab LL) hb h1 h2); clear h1 h2 hb)
          | (go_at_call 16; (with_reducible refine (CR.out p F _ (stI HVr.out.i2)).mono ?_); rintro e wa ⟨Aa, ca, rfl, h1, h2, hb⟩; have HVa := Lib.hid (HVr.out.push (rdT Aa LL) hb h1 h2); clear h1 h2 hb))
        go_roundw
        case rel => exact ⟨n + 1, by omega, by go_num, HVc.out.drop_0.drop_0⟩
        case measure => simp [intOf]; omega
      · go_wp2_with (first
          | (go_at_call 18; (with_reducible refine (CTO.out q G _ (stI HVa.out.i0)).mono ?_); rintro e wb ⟨rfl, hb⟩; have HVb := Lib.hid (HVa.out.up hb); clear hb)
          | (go_at_call 18; (with_reducible refine (CTO.out p F _ (stI HVr.out.i2)).mono ?_); rintro e wa ⟨rfl, hb⟩; have HVa := Lib.hid (HVr.out.up hb); clear hb))
        go_ret
        exact ⟨ret_bs (by first | rfl | (simp [*]; done)), HVb.out.below⟩

theorem order_law (x : Cfg) (A : Option Addr) (n0 k0 : Nat) (qs : Ups) (at' : Int) (b : Bool) (w : World) (hx : x.Ok) (hq : UpdV w A n0 k0 qs) :
    Calls Try.prog 6 #[.agg #[.int .i64 x.bt, .int .i64 x.rw, .int .i64 x.wd, .int .i64 x.md, .int .u64 x.sd, .slice A n0 k0], .int .i64 at', .bool b] w fun e w' => e = .returned (.bool true) ∧ Below w.heap.size w w' := by
  cases A with
  | none =>
    obtain ⟨rfl, rfl⟩ := hq.nil rfl
    obtain rfl : qs = [] := List.eq_nil_of_length_eq_zero hq.len
    obtain ⟨X, l, a1, b1, _, dd1, _, _⟩ := level_of at' 1 (by omega) (by omega)
    obtain rfl : l = 0 := by omega
    cases b with
    | false => exact ord_n_false x at' w hx hq X a1 b1 dd1
    | true => exact ord_n_true x at' w hx hq X a1 b1 dd1
  | some ad =>
    obtain ⟨N, hN⟩ : ∃ N, N = min 60 n0 := ⟨_, rfl⟩
    obtain ⟨X, l, a1, b1, _, dd1, ee1, ff1⟩ := level_of at' ((N : Int) + 1) (by omega) (by omega)
    obtain ⟨K, rfl⟩ : ∃ K : Nat, l = K := ⟨l.toNat, by omega⟩
    have hnc := hq.nc
    by_cases hk : k0 = K
    · cases b with
      | false => exact ord_e_false x _ n0 k0 qs at' w hx hq N K hN X a1 b1 dd1 (by omega) ad rfl hk
      | true => exact ord_e_true x _ n0 k0 qs at' w hx hq N K hN X a1 b1 dd1 (by omega) ad rfl hk
    · cases b with
      | false => exact ord_g_false x _ n0 k0 qs at' w hx hq N K hN X a1 b1 dd1 (by omega) ad rfl (by omega)
      | true => exact ord_g_true x _ n0 k0 qs at' w hx hq N K hN X a1 b1 dd1 (by omega) ad rfl (by omega)
namespace stackOrder
open Go.ChangeShapes Go.WideShapes Go.ChangeAt Go.Joins
set_option maxRecDepth 100000 in
theorem lifted (os : Os) (started : os.Started) (H : Type) (enc : TypeId × Value → H) :
    ReturnsInHanded {} Try.checked os 6 .any (Rows.stackOrderSpec.pre6 enc Try.prog Try.f6 Rows.stackOrderRow.domain false) (Rows.stackOrderSpec.post enc Try.prog Try.f6 false true false false) := by
  refine Lw.lifted (C := Try.checked) (B := 4) (by kernel_rfl) os started (by kernel_rfl) Try.func6
    (ChangeSpec.witness6 (enc := enc) (C := Try.checked) false ⟨#[], #[.agg #[.int .i64 0, .int .i64 0, .int .i64 0, .int .i64 0, .int .u64 0, .slice none 0 0], .int .i64 0, .bool false], []⟩ 8 (by kernel_rfl) (by kernel_rfl) (by kernel_rfl) (by kernel_rfl)) rfl Try.underlying4 (by kernel_rfl) (by kernel_rfl) (by kernel_rfl) ?_ ?_
  · intro ds h
    rw [Try.params6] at h
    match ds, h with
    | [_, _, _], _ => rfl
  · intro W base args ds p hval hA
    rw [Try.params6] at hA hval
    obtain ⟨v0, vs0, d0, ds0, p0, q0, hargs, rfl, rfl, h0, r0⟩ := trodAll_cons hA
    obtain ⟨v1, vs1, d1, ds1, p1, q1, rfl, rfl, rfl, h1, r1⟩ := trodAll_cons r0
    obtain ⟨v2, vs2, d2, ds2, p2, q2, rfl, rfl, rfl, h2, r2⟩ := trodAll_cons r1
    obtain ⟨rfl, rfl, rfl⟩ := trodAll_nil r2
    obtain rfl : args = #[v0, v1, v2] := by cases args; simp_all
    obtain ⟨x0, A0, n0, k0, qs0, rfl, hx0, hq0⟩ := open_playW (hval 0 27 v0 rfl rfl) h0
    obtain ⟨a1, rfl, rfl, rfl, w1⟩ := open_int Try.underlying3 (hval 1 3 v1 rfl rfl) h1
    have b1 := Lw.wf_i64 w1
    obtain ⟨a2, rfl, rfl, rfl⟩ := open_bool Try.underlying4 (hval 2 4 v2 rfl rfl) h2
    exact order_law x0 A0 n0 k0 qs0 a1 a2 W hx0 hq0
theorem over : Rows.stackOrderRow.holds Try.pinned (OpenSpec.ofChange Rows.stackOrderSpec) :=
  OpenClaim.holds_of_wide 6 Try.f6 rfl rfl rfl rfl rfl rfl rfl ⟨rfl, rfl, rfl, rfl, rfl⟩ rfl rfl rfl rfl rfl (by kernel_rfl) Try.func6 (by kernel_rfl)
    (of_decide_eq_true (by kernel_rfl)) (by unfold Func.isWrapper; first | (rw [if_pos (by decide +kernel)]; kernel_rfl) | (rw [if_neg (by decide +kernel)]; exact ⟨rfl, rfl⟩))
    (fun os started H enc _ => lifted os started H enc)
theorem proved : Rows.StackOrderSaid :=
  over
#print axioms proved
end stackOrder
end Go.Proofs.Ytccabgeeglhagaa.Stk
