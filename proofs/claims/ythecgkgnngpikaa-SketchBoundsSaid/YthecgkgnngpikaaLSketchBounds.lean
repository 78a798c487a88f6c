/- The statement SketchBounds of layer 10 holds: in the mode Conservative Point is not less than what a key has, and not more than in the mode Linear behind the same; any config (eight bits, nine columns), level, and updates (sixty, by less than 2 to the power of 40, none below 0), parted anywhere into two sketches that are merged, and key. Printed by wip/gen/skbounds.py. -/
import Derived.Test.YthecgkgnngpikaaMg
import Derived.Test.YthecgkgnngpikaaMh
import Derived.Deep.RegionLaw
import Derived.Deep.LoopGhost
import Derived.Deep.RegionHeld3
import Derived.Deep.DeepCutAuto
import Derived.Deep.QuietTactic
import Derived.BigQuiet
namespace Go.Proofs.Ythecgkgnngpikaa.Sk
open Go Go.RowKit Lw Grd Lin Con Shp
set_option linter.unusedVariables false
set_option linter.unusedSimpArgs false
theorem bupI {w : World} {b : Nat} {o : Obj} {w' : World} (h : w.heap[b]? = some o) (hb : Below w.heap.size w w') : w'.heap[b]? = some o := by
  rw [hb.block b (size_of_heap h)]
  exact h
/-- A Play whose updates are a row of one's own. -/
def plT (g : Nat) (v0 v1 v2 v3 v4 v5 v : Value) (B k : Nat) (us : Ups) : Thing where
  I := fun w => w.heap[g]? = some (.cells #[v0, v1, v2, v3, v4, v5, v] 64 (0, 0)) ∧ w.ownsRow B 44 2 v k (flatU us) ∧ g < B
  F := fun q => q = g ∨ v.ownBlock = some q
  keep := fun w w' H h hk hf => ⟨hk.heap h.1 (hf g (.inl rfl)), hk.own h.2.1 (fun q hq => hf q (.inr hq)), h.2.2⟩
  lt := fun w h k hk => by
    rcases hk with rfl | hk
    · exact size_of_heap h.1
    · exact own_lt h.2.1 hk
theorem plI {w : World} {g : Nat} {v0 v1 v2 v3 v4 v5 v : Value} {B k : Nat} {us : Ups} (h : (plT g v0 v1 v2 v3 v4 v5 v B k us).I w) : w.heap[g]? = some (.cells #[v0, v1, v2, v3, v4, v5, v] 64 (0, 0)) ∧ w.ownsRow B 44 2 v k (flatU us) ∧ g < B := h
theorem kept_grown {w w' : World} {row : Option Nat} (hg : w.grownBy w' row) : Kept (fun q => row = some q) w w' := (Kept.refl (fun q => row = some q) w).grown hg (fun q hq => .inl hq)
theorem pl_turn {W X w7 : World} {g gg cap : Nat} {v0 v1 v2 v3 v4 v5 v : Value} {B k : Nat} {us us2 : Ups} (h : (plT g v0 v1 v2 v3 v4 v5 v B k us).I W) (hb : Below W.heap.size W X) (hgrow : X.grownBy w7 v.ownBlock) (hown : w7.ownsRow B 44 2 (.slice (some ⟨gg, 0, none⟩) (k + 1) cap) (k + 1) (flatU us2)) (hat : v.ownBlock = some gg ∨ gg = X.heap.size) :
    (plT g v0 v1 v2 v3 v4 v5 (.slice (some ⟨gg, 0, none⟩) (k + 1) cap) B (k + 1) us2).I (w7.setCell ⟨g, 6, none⟩ (.slice (some ⟨gg, 0, none⟩) (k + 1) cap)) ∧ Kept (plT g v0 v1 v2 v3 v4 v5 v B k us).F W (w7.setCell ⟨g, 6, none⟩ (.slice (some ⟨gg, 0, none⟩) (k + 1) cap)) ∧ (∀ q, (plT g v0 v1 v2 v3 v4 v5 (.slice (some ⟨gg, 0, none⟩) (k + 1) cap) B (k + 1) us2).F q → (plT g v0 v1 v2 v3 v4 v5 v B k us).F q ∨ W.heap.size ≤ q) := by
  obtain ⟨h1, h2, h3⟩ := h
  have hge := own_ge h2
  have hk7 : Kept (fun q => v.ownBlock = some q) W w7 := (Kept.of_below hb).trans (kept_grown hgrow) (fun q hq h => h)
  have hgn : v.ownBlock ≠ some g := fun e => by have := hge g e; omega
  have h17 := hk7.heap h1 hgn
  have hgg := own_ge hown gg rfl
  have hks : Kept (fun q => q = g) w7 (w7.setCell ⟨g, 6, none⟩ (.slice (some ⟨gg, 0, none⟩) (k + 1) cap)) := (Kept.refl (fun q => q = g) w7).set (.inl rfl) 6 _
  refine ⟨⟨boxs_set (e := 64) h17 6 _, hks.own hown (fun q hq e => ?_), h3⟩, ?_, fun q hq => ?_⟩
  · simp [Value.ownBlock] at hq
    omega
  · exact Kept.trans (hk7.mono (fun q _ e => .inr e)) (hks.mono (fun q _ e => .inl e)) (fun q hq e => e)
  · rcases hq with rfl | hq
    · exact .inl (.inl rfl)
    · simp [Value.ownBlock] at hq
      subst hq
      rcases hat with e | e
      · exact .inl (.inr e)
      · exact .inr (by have := hb.size; omega)
theorem ups_parts (c : Cfg) (l : Int) (qs : Ups) {a : Nat} (ha : a ≤ 60) : upsR c l qs 0 a ++ upsR c l qs a 60 = upsA c l qs := by
  unfold upsR upsA
  rw [List.drop_zero, ← List.map_append]
  congr 1
  have h : (qs.take 60).take a = qs.take a := by rw [List.take_take, Nat.min_eq_left ha]
  rw [← h, List.take_append_drop]
theorem keys_md {x : Cfg} (l : Int) : keys (cfgP x 1) l = keys (cfgP x 2) l := by
  have h1 := (cfgP_right x 1 (by omega) (by omega)).1
  have h2 := (cfgP_right x 2 (by omega) (by omega)).1
  have e : (cfgP x 1).bt = (cfgP x 2).bt := rfl
  unfold keys
  by_cases hl : 0 ≤ l ∧ l ≤ (cfgP x 2).bt
  · rw [if_pos ⟨h1, hl⟩, if_pos ⟨h2, hl⟩]
    rfl
  · rw [if_neg (fun g => hl g.2), if_neg (fun g => hl g.2)]
theorem cols_md {x : Cfg} (l q : Int) : cols (cfgP x 1) l q = cols (cfgP x 2) l q := by
  unfold cols
  rw [keys_md]
  rfl
/-- What is cut is not cut again. -/
theorem cut_again {x : Cfg} {l : Int} (hk : 1 ≤ keys (cfgP x 2) l) (q : Int × Int) : cutU (cfgP x 1) l (cutU (cfgP x 2) l q) = cutU (cfgP x 2) l q := by
  have h1 := cutU_ok hk q
  have hb := tmod_bd q.2
  have e1 : (cutU (cfgP x 2) l q).1 % keys (cfgP x 1) l = (cutU (cfgP x 2) l q).1 := by
    rw [keys_md]
    exact Int.emod_eq_of_lt h1.1 h1.2.1
  have e0 : (cutU (cfgP x 2) l q).2 < 1099511627776 ∧ 0 ≤ (cutU (cfgP x 2) l q).2 := by
    refine ⟨?_, h1.2.2.2.2 rfl⟩
    unfold cutU dv
    simp only
    split
    · split <;> omega
    · omega
  have e2 : dv (decide ((cfgP x 1).md = 2)) (cutU (cfgP x 2) l q).2 = (cutU (cfgP x 2) l q).2 := by
    have hd : decide ((cfgP x 1).md = 2) = false := decide_eq_false (show ¬ (1 : Int) = 2 by omega)
    rw [hd]
    unfold dv
    rw [if_neg (by decide), Int.tmod_eq_emod_of_nonneg e0.2]
    exact Int.emod_eq_of_lt e0.2 e0.1
  show ((cutU (cfgP x 2) l q).1 % keys (cfgP x 1) l, dv (decide ((cfgP x 1).md = 2)) (cutU (cfgP x 2) l q).2) = _
  rw [e1, e2]
theorem ups_again {x : Cfg} {l : Int} (hk : 1 ≤ keys (cfgP x 2) l) (qs : Ups) : upsR (cfgP x 1) l (upsA (cfgP x 2) l qs) 0 60 = upsA (cfgP x 2) l qs := by
  have hl : (upsA (cfgP x 2) l qs).length ≤ 60 := by unfold upsA; rw [List.length_map, List.length_take]; omega
  unfold upsR
  rw [List.drop_zero, List.take_of_length_le hl]
  unfold upsA
  rw [List.map_map]
  exact List.map_congr_left fun q _ => cut_again hk q
theorem ltx {a b : Nat} (h : a < b) (x : Nat) : a < b + x := by omega
theorem own2x {w w' : World} {B : Nat} {e : TypeId} {v : Value} {n : Nat} {xs : List Value} (h : w.ownsRow B e 2 v n xs) (hb : Below w.heap.size w w') : w'.ownsRow B e 2 v n xs := (Kept.of_below (F := fun _ => False) hb).own h (fun _ _ h => h)
theorem allocx {X : World} {n : Nat} {vs : Array Value} {t : TypeId} (h : X.heap.size = n) : (X.alloc (.cells vs t)).heap[n]? = some (.cells vs t (0, 0)) := by
  subst h
  exact heap_alloc_new X _
set_option maxRecDepth 100000 in
set_option maxHeartbeats 16000000 in
theorem bounds_law (x : Cfg) (lv : Int) (A : Option Addr) (n0 k0 : Nat) (qs : Ups) (at' key : Int) (w : World) (hx : x.Ok) (hlv : -9223372036854775808 ≤ lv ∧ lv ≤ 9223372036854775807) (hq : UpdV w A n0 k0 qs) (key0 : 0 ≤ key) (key1 : key ≤ 18446744073709551615) :
    Calls Try.prog 9 #[.agg #[.int .i64 x.bt, .int .i64 x.rw, .int .i64 x.wd, .int .i64 x.md, .int .u64 x.sd, .int .i64 lv, .slice A n0 k0], .int .i64 at', .int .u64 key] w fun e w' => e = .returned (.bool true) ∧ Below w.heap.size w w' := by
  obtain ⟨i0, hi, hz0, hz1, hz2⟩ := info_parts upd_info
  obtain ⟨AX, Y, p1, p2, p3, p4, p5, p6⟩ := level_of at' 61 (by omega) (by omega)
  obtain ⟨a, ha⟩ : ∃ a : Nat, Y = a := ⟨Y.toNat, by omega⟩
  subst ha
  have ha60 : a ≤ 60 := by omega
  obtain ⟨d, hD⟩ : ∃ d, cfgP x 1 = d := ⟨_, rfl⟩
  obtain ⟨c, hC⟩ : ∃ c, cfgP x 2 = c := ⟨_, rfl⟩
  obtain ⟨l, hl⟩ : ∃ l, lv % 65536 % (c.bt + 1) = l := ⟨_, rfl⟩
  have hr := cfgP_right x 2 (by omega) (by omega)
  have hrd := cfgP_right x 1 (by omega) (by omega)
  have hco := cfgP_ok x hx 2 (by omega) (by omega)
  have hdo := cfgP_ok x hx 1 (by omega) (by omega)
  have hmd : c.md = 2 := by rw [← hC]; rfl
  have hmdd : d.md = 1 := by rw [← hD]; rfl
  have hdb : d.bt = c.bt ∧ rws d = rws c ∧ wds d = wds c := by rw [← hC, ← hD]; exact ⟨rfl, rfl, rfl⟩
  rw [hC] at hr hco
  rw [hD] at hrd hdo
  have hlb : 0 ≤ l ∧ l ≤ c.bt := by
    have h1 := hr.1.1
    have h2 := Int.emod_nonneg (lv % 65536) (show c.bt + 1 ≠ 0 by omega)
    have h3 := Int.emod_lt_of_pos (lv % 65536) (show 0 < c.bt + 1 by omega)
    omega
  have hbt8 := hr.2
  have hkeys : 1 ≤ keys c l := keys_pos.2 ⟨hr.1, hlb.1, hlb.2⟩
  have hkb := keys_bd c l
  have HQ := Lib.hid hq
  have HL := Lib.hid hq.len
  have hnc := hq.nc
  have hcm := hq.cm
  unfold maxLen at hcm
  have D1 := Lib.hid (fun w hq => fed_any x lv A n0 k0 qs 2 0 (a : Int) 0 a c l w hx hlv hq (by omega) (by omega) rfl rfl (by omega) (by omega) hC hl)
  have D2c := Lib.hid (fun w hq => fed_any x lv A n0 k0 qs 2 (a : Int) 60 a 60 c l w hx hlv hq (by omega) (by omega) rfl rfl (by omega) (by omega) hC hl)
  have D3 := Lib.hid (fun A2 n2 k2 w hq => fed_any x lv A2 n2 k2 (upsA c l qs) 1 0 60 0 60 d l w hx hlv hq (by omega) (by omega) rfl rfl (by omega) (by omega) hD (by rw [hdb.1]; exact hl))
  have hag : upsR d l (upsA c l qs) 0 60 = upsA c l qs := by rw [← hC, ← hD]; exact ups_again (by rw [hC]; exact hkeys) qs
  rw [hag] at D3
  have CH := Lib.hid (fun kk w hq => has_any x lv A n0 k0 qs c l kk w hq hco (by omega) (by omega) hkeys)
  have CCU := Lib.hid (fun w k d h0 h1 h2 h3 => cut_any c l k d w hco (by omega) (by omega) h0 h1 h2 h3 hkeys)
  have CK := Lib.hid (fun w => rkeys_any c l w hco (by omega) (by omega))
  have i1 := upsR_in hkeys qs 0 a
  have i2 := upsR_in hkeys qs a 60
  have n1 : (upsR c l qs 0 a).length ≤ 60 := Nat.le_trans (upsR_len c l qs 0 a) (by omega)
  have n2 := upsR_len c l qs a 60
  have hpart := ups_parts c l qs ha60
  have hkd : keys d l = keys c l := by rw [← hC, ← hD]; exact keys_md l
  have hcd : ∀ q, cols d l q = cols c l q := fun q => by rw [← hC, ← hD]; exact cols_md l q
  have MC := fun kk (h0 : 0 ≤ kk) (h1 : kk < keys c l) => merge_con (k := kk) hr.1 hmd hmdd hdb.2.1 hdb.2.2 hcd hkd i1 i2 n1 n2 h0 h1
  rw [hpart] at MC
  have hcode := (MC 0 (by omega) (by omega)).1
  have CM := Lib.hid (fun p F q G w h g => smerge_any p F c l (cells c l (upsR c l qs 0 a)) q G c l (cells c l (upsR c l qs a 60)) w h g)
  rw [hcode] at CM
  have HG := Lib.hid (fun k q (h1 : k < 60) (h2 : qs[k]? = some q) => upsA_get (c := c) (l := l) h1 h2)
  have HAL := Lib.hid (fun k (h1 : k = qs.length ∨ k = 60) (h2 : k ≤ 60) => upsA_all (c := c) (l := l) (qs := qs) h1 h2)
  have hcu := fun q => cutU_ok hkeys q
  have hall : ∀ u ∈ upsA c l qs, (0 ≤ u.1 ∧ u.1 ≤ 18446744073709551615) ∧ (-9223372036854775808 ≤ u.2 ∧ u.2 ≤ 9223372036854775807) := fun u hu => by
    unfold upsA at hu
    obtain ⟨q, _, rfl⟩ := List.mem_map.1 hu
    have := hcu q
    omega
  have HALL := Lib.hid hall
  have HUL : Hid ((upsA c l qs).length = min n0 60) := Lib.hid (by unfold upsA; rw [List.length_map, List.length_take, hq.len]; omega)
  obtain ⟨us, hus⟩ : ∃ us, upsA c l qs = us := ⟨_, rfl⟩
  rw [hus] at D3 CH MC HG HAL HALL HUL
  obtain ⟨M1, hM1⟩ : ∃ M, (cells c l (upsR c l qs 0 a)) = M := ⟨_, rfl⟩
  obtain ⟨M2, hM2⟩ : ∃ M, (cells c l (upsR c l qs a 60)) = M := ⟨_, rfl⟩
  rw [hM1] at D1 CM MC
  rw [hM2] at D2c CM MC
  obtain ⟨J, hJ⟩ : ∃ J, mgRes 1 c c l l M1 M2 = J := ⟨_, rfl⟩
  rw [hJ] at CM MC
  obtain ⟨H3, hH3⟩ : ∃ J, cells d l us = J := ⟨_, rfl⟩
  rw [hH3] at D3 MC
  obtain ⟨K, hKK⟩ : ∃ K, keys c l = K := ⟨_, rfl⟩
  have CP1 := Lib.hid (fun p F kk w h (h0 : 0 ≤ kk) h1 => spoint_any p F c l J kk w h h0 h1)
  have CP2 := Lib.hid (fun p F kk w h (h0 : 0 ≤ kk) h1 => spoint_any p F d l H3 kk w h h0 h1)
  have PK1 : Hid (∀ kk, kk < K → ptCode c l kk = 0) := Lib.hid (fun kk h => by unfold ptCode; rw [hKK, if_neg (by omega)])
  have PK2 : Hid (∀ kk, kk < K → ptCode d l kk = 0) := Lib.hid (fun kk h => by unfold ptCode; rw [hkd, hKK, if_neg (by omega)])
  rw [hKK] at CK MC hkeys hkb
  have HMC := Lib.hid MC
  obtain ⟨r1, r2, r3⟩ := rem_key key K key0 key1 hkeys
  obtain ⟨R, hR⟩ : ∃ R, key % K = R := ⟨_, rfl⟩
  have hRK : R < K := by rw [← hR]; exact Int.emod_lt_of_pos _ (by omega)
  rw [hR] at r1 r2 r3
  have hKn : ¬ K = 0 := by omega
  have HBX : Hid (Have w (w.alloc (.cells #[.int .i64 x.bt, .int .i64 x.rw, .int .i64 x.wd, .int .i64 x.md, .int .u64 x.sd, .int .i64 lv, .slice A n0 k0] 64)) [boxT w.heap.size 64 #[.int .i64 x.bt, .int .i64 x.rw, .int .i64 x.wd, .int .i64 x.md, .int .u64 x.sd, .int .i64 lv, .slice A n0 k0]]) := Lib.hid (box_new w _ _)
  clear hC hD hl hr hrd hco hdo hmd hmdd hdb hq hx hlv hus hM1 hM2 hJ hH3 hKK hR i1 i2 n1 n2 hpart hkd hcd MC hcode hcu hall hag
  go_enter Try.func9, Try.ntmps9
  go_wp2_with (first
    | (go_at_call 29; (with_reducible refine (D2c.out _ (HQ.out.up HV2.out.below)).mono ?_); rintro e w3 ⟨o, G, rfl, hv⟩; have HVJ := HV2.out.join hv; simp only [List.cons_append, List.nil_append] at HVJ; have HV3 := Lib.hid (HVJ.push (boxT w3.heap.size 31 #[.int .i64 c.bt, .int .i64 c.rw, .int .i64 c.wd, .int .i64 c.md, .int .u64 c.sd]) (Lw.below_alloc (Below.refl _ _) _) (heap_alloc_new w3 _) (fun k hk => Nat.le_of_eq hk.symm)); clear hv HVJ; clear x0 x1 x2 x3 x4 x5 c0; obtain ⟨x0, x1, x2, x3, x4, x5, c0⟩ := box7 HV3.out.i4)
    | (go_at_call 29; (with_reducible refine (D1.out _ (HQ.out.up HV1.out.below)).mono ?_); rintro e w2 ⟨p, F, rfl, hv⟩; have HVJ := HV1.out.join hv; simp only [List.cons_append, List.nil_append] at HVJ; have HV2 := Lib.hid (HVJ.push (boxT w2.heap.size 31 #[.int .i64 c.bt, .int .i64 c.rw, .int .i64 c.wd, .int .i64 c.md, .int .u64 c.sd]) (Lw.below_alloc (Below.refl _ _) _) (heap_alloc_new w2 _) (fun k hk => Nat.le_of_eq hk.symm)); clear hv HVJ; clear x0 x1 x2 x3 x4 x5 c0; obtain ⟨x0, x1, x2, x3, x4, x5, c0⟩ := box7 HV2.out.i2)
    | (go_at_call 28; (with_reducible refine (shown_any _).mono ?_); rintro e w1 ⟨rfl, hb⟩; have HV1 := Lib.hid (HBX.out.up hb); clear hb; obtain ⟨x0, x1, x2, x3, x4, x5, c0⟩ := box7 HV1.out.i0))
  obtain ⟨g9, hg9⟩ : ∃ g, w2.heap.size = g := ⟨_, rfl⟩
  have HV4 := Lib.hid (HV3.out.push (boxT (w3.heap.size + 1) 64 #[.int .i64 x.bt, .int .i64 x.rw, .int .i64 x.wd, .int .i64 x.md, .int .u64 x.sd, .int .i64 lv, .slice none 0 0]) (Lw.below_alloc (Below.refl _ _) _) (by have h := heap_alloc_new (w3.alloc (.cells #[.int .i64 c.bt, .int .i64 c.rw, .int .i64 c.wd, .int .i64 c.md, .int .u64 c.sd] 31)) (.cells #[.int .i64 x.bt, .int .i64 x.rw, .int .i64 x.wd, .int .i64 x.md, .int .u64 x.sd, .int .i64 lv, .slice none 0 0] 64); rw [World.size_alloc] at h; exact h) (fun k hk => by rw [World.size_alloc]; exact Nat.le_of_eq hk.symm))
  obtain ⟨g14, hg14⟩ : ∃ g, w3.heap.size + 1 = g := ⟨_, rfl⟩
  obtain ⟨g12, hg12⟩ : ∃ g, w3.heap.size = g := ⟨_, rfl⟩
  obtain ⟨w4, hw4⟩ : ∃ w4, (w3.alloc (.cells #[.int .i64 c.bt, .int .i64 c.rw, .int .i64 c.wd, .int .i64 c.md, .int .u64 c.sd] 31)).alloc (.cells #[.int .i64 x.bt, .int .i64 x.rw, .int .i64 x.wd, .int .i64 x.md, .int .u64 x.sd, .int .i64 lv, .slice none 0 0] 64) = w4 := ⟨_, rfl⟩
  rw [hw4] at HV4 ⊢
  rw [hg14, hg12, hg9] at HV4
  rw [hg14, hg9]
  obtain ⟨B0, hB0⟩ : ∃ B0, w4.heap.size = B0 := ⟨_, rfl⟩
  have hgB : g14 < B0 := by rw [← hB0]; exact box_lt HV4.out.i0
  have HVS : Hid (Have w w4 [plT g14 (.int .i64 x.bt) (.int .i64 x.rw) (.int .i64 x.wd) (.int .i64 x.md) (.int .u64 x.sd) (.int .i64 lv) (.slice none 0 0) B0 0 (us.take 0), boxT g12 31 #[.int .i64 c.bt, .int .i64 c.rw, .int .i64 c.wd, .int .i64 c.md, .int .u64 c.sd], skT o G c l M2, boxT g9 31 #[.int .i64 c.bt, .int .i64 c.rw, .int .i64 c.wd, .int .i64 c.md, .int .u64 c.sd], skT p F c l M1, boxT w.heap.size 64 #[.int .i64 x.bt, .int .i64 x.rw, .int .i64 x.wd, .int .i64 x.md, .int .u64 x.sd, .int .i64 lv, .slice A n0 k0]]) := Lib.hid (by
    refine HV4.out.turn_0 (plT g14 _ _ _ _ _ _ (.slice none 0 0) B0 0 (us.take 0)) ⟨HV4.out.i0, by rw [List.take_zero]; exact World.ownsRow_nil _ _ _ _, hgB⟩ (Kept.refl _ _) (fun q hq => ?_)
    rcases hq with rfl | hq
    · exact .inl rfl
    · cases hq)
  have hB4 : Hid (w4.heap.size = B0) := Lib.hid hB0
  clear hg14 hg12 hg9 hw4 hB0 HV4 HV3 HV2 HV1 x0 x1 x2 x3 x4 x5 c0
  go_loopw [15] (fun iv wr => ∃ (k : Nat) (v : Value), k ≤ n0 ∧ k ≤ 60 ∧ iv = .int .i64 k ∧ B0 ≤ wr.heap.size ∧ Have w wr [plT g14 (.int .i64 x.bt) (.int .i64 x.rw) (.int .i64 x.wd) (.int .i64 x.md) (.int .u64 x.sd) (.int .i64 lv) v B0 k (us.take k), boxT g12 31 #[.int .i64 c.bt, .int .i64 c.rw, .int .i64 c.wd, .int .i64 c.md, .int .u64 c.sd], skT o G c l M2, boxT g9 31 #[.int .i64 c.bt, .int .i64 c.rw, .int .i64 c.wd, .int .i64 c.md, .int .u64 c.sd], skT p F c l M1, boxT w.heap.size 64 #[.int .i64 x.bt, .int .i64 x.rw, .int .i64 x.wd, .int .i64 x.md, .int .u64 x.sd, .int .i64 lv, .slice A n0 k0]]) (fun iv _ => n0 - (intOf iv).toNat)
  case atStart => exact ⟨0, _, Nat.zero_le _, Nat.zero_le _, rfl, by rw [hB4.out]; exact Nat.le_refl _, HVS.out⟩
  case round =>
    obtain ⟨k, v, hk1, hk2, rfl, hbsz, hv⟩ := hrel
    have HVr := Lib.hid hv
    have hwb := hv.below
    clear hv
    obtain ⟨x0, x1, x2, x3, x4, x5, c0⟩ := box7 HVr.out.i5
    obtain ⟨e1, e2, e3, e4, e5⟩ := box5 HVr.out.i3
    have hown := (plI HVr.out.i0).2.1
    have v6 := box_cell (e := 64) (i := 6) (plI HVr.out.i0).1 rfl
    have hg14l := size_of_heap (plI HVr.out.i0).1
    by_cases hlt : k < n0 ∧ k < 60
    · obtain ⟨hj1, hj2⟩ := hlt
      obtain ⟨q, hq1⟩ : ∃ q, qs[k]? = some q := ⟨_, List.getElem?_eq_getElem (by rw [HL.out]; omega)⟩
      have hug := HG.out k q hj2 hq1
      obtain ⟨a0, g, o, rfl, hadd, d1w, d2w, kb, db⟩ := HQ.out.at hq1
      obtain ⟨qk, qd⟩ := q
      simp only at d1w d2w kb db
      have d1 := cell_up d1w hwb
      have d2 := cell_up d2w hwb
      have CC := Lib.hid (fun w => CCU.out w qk qd kb.1 kb.2 db.1 db.2)
      obtain ⟨U, hU⟩ : ∃ U, (cutU c l (qk, qd)).1 = U := ⟨_, rfl⟩
      obtain ⟨D2, hD2⟩ : ∃ D2, (cutU c l (qk, qd)).2 = D2 := ⟨_, rfl⟩
      have HNX : Hid (flatU (us.take (k + 1)) = flatU (us.take k) ++ [.int .u64 U, .int .i64 D2]) := Lib.hid (by rw [flatU_next hug, hU, hD2])
      rw [hU, hD2] at CC
      have hk1' : k + 1 ≤ n0 := hj1
      have hk2' : k + 1 ≤ 60 := hj2
      have hkn : (k : Int) < n0 := by omega
      have hk60 : (k : Int) < 60 := by omega
      clear hq1 hug hU hD2 d1w d2w kb db x0 x1 x2 x3 x4 x5
      have hl9 := box_lt HVr.out.i3
      have hlw := box_lt HVr.out.i5
      have hlg := cell_lt d1
      simp only at hlg
      have lz1 := ltx hg14l
      have lz2 := ltx hl9
      have lz3 := ltx hlw
      have lz4 := ltx hlg
      go_upto_region 9 with fail
      go_region_law (first
        | (refine step_append_lies _ rfl _ _ 32 rfl B0 44 i0 (.agg #[.int .u64 0, .int .i64 0]) 2 16 upds_u hi hz0 hz1 hz2 rfl (by decide) v k (flatU (us.take k)) rfl (own2x hown (by repeat' (first | (with_reducible exact Below.refl _ _) | (with_reducible assumption) | (with_reducible refine below_over ?_ _ _) | (with_reducible refine Lw.below_alloc ?_ _) | (with_reducible refine Below.drew ?_) | (with_reducible refine below_drewN ?_ _) | (with_reducible refine Below.setCell ?_ ?_ _) | go_size))) ⟨_, 0, none⟩ 1 1 [.int .u64 U, .int .i64 D2] rfl rfl (pair_news (allocx (by simp; done))) (pair_one U D2) (by decide) (by unfold maxLen; omega) (by omega) (Nat.le_trans hbsz (Below.size (show Below wr.heap.size wr _ from (by repeat' (first | (with_reducible exact Below.refl _ _) | (with_reducible assumption) | (with_reducible refine below_over ?_ _ _) | (with_reducible refine Lw.below_alloc ?_ _) | (with_reducible refine Below.drew ?_) | (with_reducible refine below_drewN ?_ _) | (with_reducible refine Below.setCell ?_ ?_ _) | go_size))))) _ rfl ?_; intro gg capg w7 hown7 hgrow7 hat7 hlt7; have HT7 := Lib.hid (fun us2 (e : flatU us2 = flatU (us.take k) ++ [.int .u64 U, .int .i64 D2]) => pl_turn (us2 := us2) (cap := capg) (HVr.out.i0) (by repeat' (first | (with_reducible exact Below.refl _ _) | (with_reducible assumption) | (with_reducible refine below_over ?_ _ _) | (with_reducible refine Lw.below_alloc ?_ _) | (with_reducible refine Below.drew ?_) | (with_reducible refine below_drewN ?_ _) | (with_reducible refine Below.setCell ?_ ?_ _) | go_size)) hgrow7 (by rw [e]; exact hown7) hat7); have h14 := (kept_grown hgrow7).heap (bupI (plI HVr.out.i0).1 (by repeat' (first | (with_reducible exact Below.refl _ _) | (with_reducible assumption) | (with_reducible refine below_over ?_ _ _) | (with_reducible refine Lw.below_alloc ?_ _) | (with_reducible refine Below.drew ?_) | (with_reducible refine below_drewN ?_ _) | (with_reducible refine Below.setCell ?_ ?_ _) | go_size))) (fun e => by have := own_ge hown _ e; omega); have fz14 := boxs_frozen (e := 64) h14 6; have c14 := box_cell (e := 64) (i := 6) h14 rfl; clear h14)
        | (go_simp; (go_at_call 30; (with_reducible refine (CC.out _).mono ?_); rintro e w' ⟨rfl, hb⟩; obtain ⟨bs, dd, rfl⟩ := below_grow hb; clear hb)))
      all_goals go_wp2
      all_goals go_roundw
      all_goals first
        | exact ⟨k + 1, _, hk1', hk2', by go_num, Nat.le_trans hbsz (HT7.out _ HNX.out).2.1.size, HVr.out.turn_0 _ (HT7.out _ HNX.out).1 (HT7.out _ HNX.out).2.1 (HT7.out _ HNX.out).2.2⟩
        | (simp [intOf]; omega)
    · skip
      have hta := HAL.out k (by rw [HL.out]; omega) hk2
      rw [hta] at hown HVr
      obtain ⟨A2, cap2, rfl, hI, hF⟩ := upd_own hown (by rw [HUL.out]; omega) HALL.out
      have UP2 : Hid (UpdV wr A2 k cap2 us) := Lib.hid hI.1
      obtain ⟨y0, y1, y2, y3, y4, y5, y6⟩ := box7 (e := 64) (plI HVr.out.i0).1
      have hcases : ((k : Int) < n0 ∧ ¬ (k : Int) < 60) ∨ ¬ (k : Int) < n0 := by omega
      clear hta hown v6 hI hF hlt hk1 hgB hg14l
      rcases hcases with ⟨hc1, hc2⟩ | hc1
      · have hn0 : ¬ n0 = 0 := by omega
        have hn0b : (0 : Int) < (n0 : Int) := by omega
        rcases (show Int.tmod R 2 = 0 ∨ Int.tmod R 2 = 1 by rw [Int.tmod_eq_emod_of_nonneg r2]; omega) with hev | hev
        · obtain ⟨q9, hq9⟩ : ∃ q, qs[0]? = some q := ⟨_, List.getElem?_eq_getElem (by rw [HL.out]; omega)⟩
          obtain ⟨a9, gq, oq, rfl, hadd9, d9w, -, kb9, -⟩ := HQ.out.at hq9
          obtain ⟨qk9, qd9⟩ := q9
          simp only at d9w kb9
          have had9 : a9 = ⟨gq, oq, none⟩ := by rw [← hadd9]; cases a9 with | mk b o s => cases s <;> simp [Addr.add]
          subst had9
          obtain ⟨s1, s2, s3⟩ := rem_key qk9 K kb9.1 kb9.2 hkeys
          obtain ⟨kk, hkk⟩ : ∃ kk, qk9 % K = kk := ⟨_, rfl⟩
          have kk1 : kk < K := by rw [← hkk]; exact Int.emod_lt_of_pos _ (by omega)
          rw [hkk] at s1 s2 s3
          have kk0 := s2
          clear hn0 hkk hq9 hadd9
          go_wp2_with (first
            | (go_at_call 24; (with_reducible refine (CK.out _).mono ?_); rintro e wk ⟨rfl, hb⟩; have HV9 := (HV.out.up (by repeat' (first | (with_reducible exact Below.refl _ _) | (with_reducible assumption) | (with_reducible refine below_over ?_ _ _) | (with_reducible refine Lw.below_alloc ?_ _) | (with_reducible refine Below.drew ?_) | (with_reducible refine below_drewN ?_ _) | (with_reducible refine Below.setCell ?_ ?_ _) | go_size))).up hb; clear HV x0 x1 x2 x3 x4 x5 c0 e1 e2 e3 e4 e5 hb; have HV := Lib.hid HV9; clear HV9; obtain ⟨x0, x1, x2, x3, x4, x5, c0⟩ := box7 HV.out.i7; obtain ⟨e1, e2, e3, e4, e5⟩ := box5 HV.out.i5)
            | (go_at_call 31; (with_reducible refine (CM.out p F o G _ (skI HV.out.i6) (skI HV.out.i4)).mono ?_); rintro e w6 ⟨rfl, F1, h1, h2, h3⟩; have HV9 := HV.out.turn_6 (skT p F1 c l J) h1 h2 h3; clear HV h1 h2 h3 x0 x1 x2 x3 x4 x5 c0 e1 e2 e3 e4 e5; have HV := Lib.hid HV9; clear HV9; obtain ⟨x0, x1, x2, x3, x4, x5, c0⟩ := box7 HV.out.i7; obtain ⟨e1, e2, e3, e4, e5⟩ := box5 HV.out.i5)
            | (go_at_call 29; (with_reducible refine (D3.out A2 k cap2 _ (UP2.out.up (by repeat' (first | (with_reducible exact Below.refl _ _) | (with_reducible assumption) | (with_reducible refine below_over ?_ _ _) | (with_reducible refine Lw.below_alloc ?_ _) | (with_reducible refine Below.drew ?_) | (with_reducible refine below_drewN ?_ _) | (with_reducible refine Below.setCell ?_ ?_ _) | go_size)))).mono ?_); rintro e w5 ⟨r, R3, rfl, hv⟩; have HVJ := (HVr.out.up (by repeat' (first | (with_reducible exact Below.refl _ _) | (with_reducible assumption) | (with_reducible refine below_over ?_ _ _) | (with_reducible refine Lw.below_alloc ?_ _) | (with_reducible refine Below.drew ?_) | (with_reducible refine below_drewN ?_ _) | (with_reducible refine Below.setCell ?_ ?_ _) | go_size))).join hv; simp only [List.cons_append, List.nil_append] at HVJ; have HV := Lib.hid (HVJ.push (boxT w5.heap.size 31 #[.int .i64 d.bt, .int .i64 d.rw, .int .i64 d.wd, .int .i64 d.md, .int .u64 d.sd]) (Lw.below_alloc (Below.refl _ _) _) (heap_alloc_new w5 _) (fun k hk => Nat.le_of_eq hk.symm)); clear hv HVJ y0 y1 y2 y3 y4 y5 y6 x0 x1 x2 x3 x4 x5 c0 e1 e2 e3 e4 e5; obtain ⟨x0, x1, x2, x3, x4, x5, c0⟩ := box7 HV.out.i7; obtain ⟨e1, e2, e3, e4, e5⟩ := box5 HV.out.i5))
          have d9 := cell_up d9w HV.out.below
          go_region_held3 (fun w' => w'.cell? ⟨w.heap.size, 6, none⟩ = some (.slice (some ⟨gq, oq, none⟩) n0 k0) ∧ w'.cell? ⟨g9, 0, none⟩ = some (.int .i64 c.bt) ∧ w'.cell? ⟨g9, 1, none⟩ = some (.int .i64 c.rw) ∧ w'.cell? ⟨g9, 2, none⟩ = some (.int .i64 c.wd) ∧ w'.cell? ⟨g9, 3, none⟩ = some (.int .i64 c.md) ∧ w'.cell? ⟨g9, 4, none⟩ = some (.int .u64 c.sd) ∧ w'.cell? ⟨gq, oq, none⟩ = some (.int .u64 qk9)) (first | (refine ⟨?_, ?_, ?_, ?_, ?_, ?_, ?_⟩ <;> (first | (with_reducible assumption) | (with_reducible refine cell_up c0 ?_) | (with_reducible refine cell_up e1 ?_) | (with_reducible refine cell_up e2 ?_) | (with_reducible refine cell_up e3 ?_) | (with_reducible refine cell_up e4 ?_) | (with_reducible refine cell_up e5 ?_) | (with_reducible refine cell_up d9 ?_)) <;> (repeat' (first | (with_reducible exact Below.refl _ _) | (with_reducible assumption) | (with_reducible refine below_over ?_ _ _) | (with_reducible refine Lw.below_alloc ?_ _) | (with_reducible refine Below.drew ?_) | (with_reducible refine below_drewN ?_ _) | (with_reducible refine Below.setCell ?_ ?_ _) | go_size)))) (first | (go_at_call 24; (with_reducible refine (CK.out _).mono ?_); rintro e wk ⟨rfl, hb⟩; have HV9 := (HV.out.up (by repeat' (first | (with_reducible exact Below.refl _ _) | (with_reducible assumption) | (with_reducible refine below_over ?_ _ _) | (with_reducible refine Lw.below_alloc ?_ _) | (with_reducible refine Below.drew ?_) | (with_reducible refine below_drewN ?_ _) | (with_reducible refine Below.setCell ?_ ?_ _) | go_size))).up hb; clear HV x0 x1 x2 x3 x4 x5 c0 e1 e2 e3 e4 e5 hb; have HV := Lib.hid HV9; clear HV9; obtain ⟨x0, x1, x2, x3, x4, x5, c0⟩ := box7 HV.out.i7; obtain ⟨e1, e2, e3, e4, e5⟩ := box5 HV.out.i5; clear d9; have d9 := cell_up d9w HV.out.below))
          all_goals clear d9
          obtain ⟨V1, hV1⟩ : ∃ v, ptVal c l J kk = v := ⟨_, rfl⟩
          obtain ⟨V2, hV2⟩ : ∃ v, ptVal d l H3 kk = v := ⟨_, rfl⟩
          obtain ⟨Z, hZ⟩ : ∃ v, hasK kk us = v := ⟨_, rfl⟩
          have hmc := (HMC.out kk kk0 kk1).2
          rw [hV1, hV2, hZ] at hmc
          have CPA : Hid (∀ w', SK w' p F1 c l J → Calls Try.prog 32 #[.pointer (some p), .int .u64 kk] w' fun e w2 => e = .returned (.tuple #[.int .i64 V1, .int .i64 0]) ∧ Below w'.heap.size w' w2) := Lib.hid (fun w' h => by
            have C := CP1.out p F1 kk w' h kk0 (by omega)
            rw [hV1, PK1.out kk kk1] at C
            exact C)
          have CPB : Hid (∀ w', SK w' r R3 d l H3 → Calls Try.prog 32 #[.pointer (some r), .int .u64 kk] w' fun e w2 => e = .returned (.tuple #[.int .i64 V2, .int .i64 0]) ∧ Below w'.heap.size w' w2) := Lib.hid (fun w' h => by
            have C := CP2.out r R3 kk w' h kk0 (by omega)
            rw [hV2, PK2.out kk kk1] at C
            exact C)
          have CHZ := Lib.hid (fun w hq => CH.out kk w hq)
          rw [hZ] at CHZ
          have f1 : V1 ≥ Z := hmc.1
          have f2 : V1 ≤ V2 := hmc.2
          have f3 : decide (Z ≤ V1) = true := decide_eq_true hmc.1
          have f4 : decide (V1 ≤ V2) = true := decide_eq_true hmc.2
          clear hV1 hV2 hZ hmc r1 r2 r3 hRK hkeys hkb hlb hbt8
          go_wp2_with (first
            | (go_at_call 32; (with_reducible refine (CPA.out _ (skI HV.out.i6)).mono ?_); rintro e wp ⟨rfl, hb⟩; have HV9 := (HV.out.up (by repeat' (first | (with_reducible exact Below.refl _ _) | (with_reducible assumption) | (with_reducible refine below_over ?_ _ _) | (with_reducible refine Lw.below_alloc ?_ _) | (with_reducible refine Below.drew ?_) | (with_reducible refine below_drewN ?_ _) | (with_reducible refine Below.setCell ?_ ?_ _) | go_size))).up hb; clear HV x0 x1 x2 x3 x4 x5 c0 e1 e2 e3 e4 e5 hb; have HV := Lib.hid HV9; clear HV9; obtain ⟨x0, x1, x2, x3, x4, x5, c0⟩ := box7 HV.out.i7; obtain ⟨e1, e2, e3, e4, e5⟩ := box5 HV.out.i5)
            | (go_at_call 32; (with_reducible refine (CPB.out _ (skI HV.out.i1)).mono ?_); rintro e wq ⟨rfl, hb⟩; have HV9 := (HV.out.up (by repeat' (first | (with_reducible exact Below.refl _ _) | (with_reducible assumption) | (with_reducible refine below_over ?_ _ _) | (with_reducible refine Lw.below_alloc ?_ _) | (with_reducible refine Below.drew ?_) | (with_reducible refine below_drewN ?_ _) | (with_reducible refine Below.setCell ?_ ?_ _) | go_size))).up hb; clear HV x0 x1 x2 x3 x4 x5 c0 e1 e2 e3 e4 e5 hb; have HV := Lib.hid HV9; clear HV9; obtain ⟨x0, x1, x2, x3, x4, x5, c0⟩ := box7 HV.out.i7; obtain ⟨e1, e2, e3, e4, e5⟩ := box5 HV.out.i5)
            | (go_at_call 33; (with_reducible refine (CHZ.out _ (HQ.out.up HV.out.below)).mono ?_); rintro e wh ⟨rfl, hb⟩; have HVz := Lib.hid (HV.out.up hb); clear hb))
          all_goals go_ret
          all_goals exact ⟨ret_bs (by first | rfl | (simp [*]; done)), HVz.out.below⟩
        · obtain ⟨q9, hq9⟩ : ∃ q, qs[0]? = some q := ⟨_, List.getElem?_eq_getElem (by rw [HL.out]; omega)⟩
          obtain ⟨a9, -, -, rfl, -⟩ := HQ.out.at hq9
          clear hn0 hq9
          obtain ⟨kk, hkk⟩ : ∃ kk, R = kk := ⟨_, rfl⟩
          rw [hkk] at r1 r2 hRK hev
          have kk0 := r2
          have kk1 := hRK
          go_wp2_with (first
            | (go_at_call 24; (with_reducible refine (CK.out _).mono ?_); rintro e wk ⟨rfl, hb⟩; have HV9 := (HV.out.up (by repeat' (first | (with_reducible exact Below.refl _ _) | (with_reducible assumption) | (with_reducible refine below_over ?_ _ _) | (with_reducible refine Lw.below_alloc ?_ _) | (with_reducible refine Below.drew ?_) | (with_reducible refine below_drewN ?_ _) | (with_reducible refine Below.setCell ?_ ?_ _) | go_size))).up hb; clear HV x0 x1 x2 x3 x4 x5 c0 e1 e2 e3 e4 e5 hb; have HV := Lib.hid HV9; clear HV9; obtain ⟨x0, x1, x2, x3, x4, x5, c0⟩ := box7 HV.out.i7; obtain ⟨e1, e2, e3, e4, e5⟩ := box5 HV.out.i5)
            | (go_at_call 31; (with_reducible refine (CM.out p F o G _ (skI HV.out.i6) (skI HV.out.i4)).mono ?_); rintro e w6 ⟨rfl, F1, h1, h2, h3⟩; have HV9 := HV.out.turn_6 (skT p F1 c l J) h1 h2 h3; clear HV h1 h2 h3 x0 x1 x2 x3 x4 x5 c0 e1 e2 e3 e4 e5; have HV := Lib.hid HV9; clear HV9; obtain ⟨x0, x1, x2, x3, x4, x5, c0⟩ := box7 HV.out.i7; obtain ⟨e1, e2, e3, e4, e5⟩ := box5 HV.out.i5)
            | (go_at_call 29; (with_reducible refine (D3.out A2 k cap2 _ (UP2.out.up (by repeat' (first | (with_reducible exact Below.refl _ _) | (with_reducible assumption) | (with_reducible refine below_over ?_ _ _) | (with_reducible refine Lw.below_alloc ?_ _) | (with_reducible refine Below.drew ?_) | (with_reducible refine below_drewN ?_ _) | (with_reducible refine Below.setCell ?_ ?_ _) | go_size)))).mono ?_); rintro e w5 ⟨r, R3, rfl, hv⟩; have HVJ := (HVr.out.up (by repeat' (first | (with_reducible exact Below.refl _ _) | (with_reducible assumption) | (with_reducible refine below_over ?_ _ _) | (with_reducible refine Lw.below_alloc ?_ _) | (with_reducible refine Below.drew ?_) | (with_reducible refine below_drewN ?_ _) | (with_reducible refine Below.setCell ?_ ?_ _) | go_size))).join hv; simp only [List.cons_append, List.nil_append] at HVJ; have HV := Lib.hid (HVJ.push (boxT w5.heap.size 31 #[.int .i64 d.bt, .int .i64 d.rw, .int .i64 d.wd, .int .i64 d.md, .int .u64 d.sd]) (Lw.below_alloc (Below.refl _ _) _) (heap_alloc_new w5 _) (fun k hk => Nat.le_of_eq hk.symm)); clear hv HVJ y0 y1 y2 y3 y4 y5 y6 x0 x1 x2 x3 x4 x5 c0 e1 e2 e3 e4 e5; obtain ⟨x0, x1, x2, x3, x4, x5, c0⟩ := box7 HV.out.i7; obtain ⟨e1, e2, e3, e4, e5⟩ := box5 HV.out.i5))
          obtain ⟨V1, hV1⟩ : ∃ v, ptVal c l J kk = v := ⟨_, rfl⟩
          obtain ⟨V2, hV2⟩ : ∃ v, ptVal d l H3 kk = v := ⟨_, rfl⟩
          obtain ⟨Z, hZ⟩ : ∃ v, hasK kk us = v := ⟨_, rfl⟩
          have hmc := (HMC.out kk kk0 kk1).2
          rw [hV1, hV2, hZ] at hmc
          have CPA : Hid (∀ w', SK w' p F1 c l J → Calls Try.prog 32 #[.pointer (some p), .int .u64 kk] w' fun e w2 => e = .returned (.tuple #[.int .i64 V1, .int .i64 0]) ∧ Below w'.heap.size w' w2) := Lib.hid (fun w' h => by
            have C := CP1.out p F1 kk w' h kk0 (by omega)
            rw [hV1, PK1.out kk kk1] at C
            exact C)
          have CPB : Hid (∀ w', SK w' r R3 d l H3 → Calls Try.prog 32 #[.pointer (some r), .int .u64 kk] w' fun e w2 => e = .returned (.tuple #[.int .i64 V2, .int .i64 0]) ∧ Below w'.heap.size w' w2) := Lib.hid (fun w' h => by
            have C := CP2.out r R3 kk w' h kk0 (by omega)
            rw [hV2, PK2.out kk kk1] at C
            exact C)
          have CHZ := Lib.hid (fun w hq => CH.out kk w hq)
          rw [hZ] at CHZ
          have f1 : V1 ≥ Z := hmc.1
          have f2 : V1 ≤ V2 := hmc.2
          have f3 : decide (Z ≤ V1) = true := decide_eq_true hmc.1
          have f4 : decide (V1 ≤ V2) = true := decide_eq_true hmc.2
          clear hV1 hV2 hZ hmc r1 r2 r3 hRK hkeys hkb hlb hbt8
          go_wp2_with (first
            | (go_at_call 32; (with_reducible refine (CPA.out _ (skI HV.out.i6)).mono ?_); rintro e wp ⟨rfl, hb⟩; have HV9 := (HV.out.up (by repeat' (first | (with_reducible exact Below.refl _ _) | (with_reducible assumption) | (with_reducible refine below_over ?_ _ _) | (with_reducible refine Lw.below_alloc ?_ _) | (with_reducible refine Below.drew ?_) | (with_reducible refine below_drewN ?_ _) | (with_reducible refine Below.setCell ?_ ?_ _) | go_size))).up hb; clear HV x0 x1 x2 x3 x4 x5 c0 e1 e2 e3 e4 e5 hb; have HV := Lib.hid HV9; clear HV9; obtain ⟨x0, x1, x2, x3, x4, x5, c0⟩ := box7 HV.out.i7; obtain ⟨e1, e2, e3, e4, e5⟩ := box5 HV.out.i5)
            | (go_at_call 32; (with_reducible refine (CPB.out _ (skI HV.out.i1)).mono ?_); rintro e wq ⟨rfl, hb⟩; have HV9 := (HV.out.up (by repeat' (first | (with_reducible exact Below.refl _ _) | (with_reducible assumption) | (with_reducible refine below_over ?_ _ _) | (with_reducible refine Lw.below_alloc ?_ _) | (with_reducible refine Below.drew ?_) | (with_reducible refine below_drewN ?_ _) | (with_reducible refine Below.setCell ?_ ?_ _) | go_size))).up hb; clear HV x0 x1 x2 x3 x4 x5 c0 e1 e2 e3 e4 e5 hb; have HV := Lib.hid HV9; clear HV9; obtain ⟨x0, x1, x2, x3, x4, x5, c0⟩ := box7 HV.out.i7; obtain ⟨e1, e2, e3, e4, e5⟩ := box5 HV.out.i5)
            | (go_at_call 33; (with_reducible refine (CHZ.out _ (HQ.out.up HV.out.below)).mono ?_); rintro e wh ⟨rfl, hb⟩; have HVz := Lib.hid (HV.out.up hb); clear hb))
          all_goals go_ret
          all_goals exact ⟨ret_bs (by first | rfl | (simp [*]; done)), HVz.out.below⟩
      · skip
        by_cases hn0 : n0 = 0
        · have hn0b : ¬ (0 : Int) < (n0 : Int) := by omega
          obtain ⟨kk, hkk⟩ : ∃ kk, R = kk := ⟨_, rfl⟩
          rw [hkk] at r1 r2 hRK
          have kk0 := r2
          have kk1 := hRK
          clear hn0
          go_wp2_with (first
            | (go_at_call 24; (with_reducible refine (CK.out _).mono ?_); rintro e wk ⟨rfl, hb⟩; have HV9 := (HV.out.up (by repeat' (first | (with_reducible exact Below.refl _ _) | (with_reducible assumption) | (with_reducible refine below_over ?_ _ _) | (with_reducible refine Lw.below_alloc ?_ _) | (with_reducible refine Below.drew ?_) | (with_reducible refine below_drewN ?_ _) | (with_reducible refine Below.setCell ?_ ?_ _) | go_size))).up hb; clear HV x0 x1 x2 x3 x4 x5 c0 e1 e2 e3 e4 e5 hb; have HV := Lib.hid HV9; clear HV9; obtain ⟨x0, x1, x2, x3, x4, x5, c0⟩ := box7 HV.out.i7; obtain ⟨e1, e2, e3, e4, e5⟩ := box5 HV.out.i5)
            | (go_at_call 31; (with_reducible refine (CM.out p F o G _ (skI HV.out.i6) (skI HV.out.i4)).mono ?_); rintro e w6 ⟨rfl, F1, h1, h2, h3⟩; have HV9 := HV.out.turn_6 (skT p F1 c l J) h1 h2 h3; clear HV h1 h2 h3 x0 x1 x2 x3 x4 x5 c0 e1 e2 e3 e4 e5; have HV := Lib.hid HV9; clear HV9; obtain ⟨x0, x1, x2, x3, x4, x5, c0⟩ := box7 HV.out.i7; obtain ⟨e1, e2, e3, e4, e5⟩ := box5 HV.out.i5)
            | (go_at_call 29; (with_reducible refine (D3.out A2 k cap2 _ (UP2.out.up (by repeat' (first | (with_reducible exact Below.refl _ _) | (with_reducible assumption) | (with_reducible refine below_over ?_ _ _) | (with_reducible refine Lw.below_alloc ?_ _) | (with_reducible refine Below.drew ?_) | (with_reducible refine below_drewN ?_ _) | (with_reducible refine Below.setCell ?_ ?_ _) | go_size)))).mono ?_); rintro e w5 ⟨r, R3, rfl, hv⟩; have HVJ := (HVr.out.up (by repeat' (first | (with_reducible exact Below.refl _ _) | (with_reducible assumption) | (with_reducible refine below_over ?_ _ _) | (with_reducible refine Lw.below_alloc ?_ _) | (with_reducible refine Below.drew ?_) | (with_reducible refine below_drewN ?_ _) | (with_reducible refine Below.setCell ?_ ?_ _) | go_size))).join hv; simp only [List.cons_append, List.nil_append] at HVJ; have HV := Lib.hid (HVJ.push (boxT w5.heap.size 31 #[.int .i64 d.bt, .int .i64 d.rw, .int .i64 d.wd, .int .i64 d.md, .int .u64 d.sd]) (Lw.below_alloc (Below.refl _ _) _) (heap_alloc_new w5 _) (fun k hk => Nat.le_of_eq hk.symm)); clear hv HVJ y0 y1 y2 y3 y4 y5 y6 x0 x1 x2 x3 x4 x5 c0 e1 e2 e3 e4 e5; obtain ⟨x0, x1, x2, x3, x4, x5, c0⟩ := box7 HV.out.i7; obtain ⟨e1, e2, e3, e4, e5⟩ := box5 HV.out.i5))
          obtain ⟨V1, hV1⟩ : ∃ v, ptVal c l J kk = v := ⟨_, rfl⟩
          obtain ⟨V2, hV2⟩ : ∃ v, ptVal d l H3 kk = v := ⟨_, rfl⟩
          obtain ⟨Z, hZ⟩ : ∃ v, hasK kk us = v := ⟨_, rfl⟩
          have hmc := (HMC.out kk kk0 kk1).2
          rw [hV1, hV2, hZ] at hmc
          have CPA : Hid (∀ w', SK w' p F1 c l J → Calls Try.prog 32 #[.pointer (some p), .int .u64 kk] w' fun e w2 => e = .returned (.tuple #[.int .i64 V1, .int .i64 0]) ∧ Below w'.heap.size w' w2) := Lib.hid (fun w' h => by
            have C := CP1.out p F1 kk w' h kk0 (by omega)
            rw [hV1, PK1.out kk kk1] at C
            exact C)
          have CPB : Hid (∀ w', SK w' r R3 d l H3 → Calls Try.prog 32 #[.pointer (some r), .int .u64 kk] w' fun e w2 => e = .returned (.tuple #[.int .i64 V2, .int .i64 0]) ∧ Below w'.heap.size w' w2) := Lib.hid (fun w' h => by
            have C := CP2.out r R3 kk w' h kk0 (by omega)
            rw [hV2, PK2.out kk kk1] at C
            exact C)
          have CHZ := Lib.hid (fun w hq => CH.out kk w hq)
          rw [hZ] at CHZ
          have f1 : V1 ≥ Z := hmc.1
          have f2 : V1 ≤ V2 := hmc.2
          have f3 : decide (Z ≤ V1) = true := decide_eq_true hmc.1
          have f4 : decide (V1 ≤ V2) = true := decide_eq_true hmc.2
          clear hV1 hV2 hZ hmc r1 r2 r3 hRK hkeys hkb hlb hbt8
          go_wp2_with (first
            | (go_at_call 32; (with_reducible refine (CPA.out _ (skI HV.out.i6)).mono ?_); rintro e wp ⟨rfl, hb⟩; have HV9 := (HV.out.up (by repeat' (first | (with_reducible exact Below.refl _ _) | (with_reducible assumption) | (with_reducible refine below_over ?_ _ _) | (with_reducible refine Lw.below_alloc ?_ _) | (with_reducible refine Below.drew ?_) | (with_reducible refine below_drewN ?_ _) | (with_reducible refine Below.setCell ?_ ?_ _) | go_size))).up hb; clear HV x0 x1 x2 x3 x4 x5 c0 e1 e2 e3 e4 e5 hb; have HV := Lib.hid HV9; clear HV9; obtain ⟨x0, x1, x2, x3, x4, x5, c0⟩ := box7 HV.out.i7; obtain ⟨e1, e2, e3, e4, e5⟩ := box5 HV.out.i5)
            | (go_at_call 32; (with_reducible refine (CPB.out _ (skI HV.out.i1)).mono ?_); rintro e wq ⟨rfl, hb⟩; have HV9 := (HV.out.up (by repeat' (first | (with_reducible exact Below.refl _ _) | (with_reducible assumption) | (with_reducible refine below_over ?_ _ _) | (with_reducible refine Lw.below_alloc ?_ _) | (with_reducible refine Below.drew ?_) | (with_reducible refine below_drewN ?_ _) | (with_reducible refine Below.setCell ?_ ?_ _) | go_size))).up hb; clear HV x0 x1 x2 x3 x4 x5 c0 e1 e2 e3 e4 e5 hb; have HV := Lib.hid HV9; clear HV9; obtain ⟨x0, x1, x2, x3, x4, x5, c0⟩ := box7 HV.out.i7; obtain ⟨e1, e2, e3, e4, e5⟩ := box5 HV.out.i5)
            | (go_at_call 33; (with_reducible refine (CHZ.out _ (HQ.out.up HV.out.below)).mono ?_); rintro e wh ⟨rfl, hb⟩; have HVz := Lib.hid (HV.out.up hb); clear hb))
          all_goals go_ret
          all_goals exact ⟨ret_bs (by first | rfl | (simp [*]; done)), HVz.out.below⟩
        have hn0b : (0 : Int) < (n0 : Int) := by omega
        rcases (show Int.tmod R 2 = 0 ∨ Int.tmod R 2 = 1 by rw [Int.tmod_eq_emod_of_nonneg r2]; omega) with hev | hev
        · obtain ⟨q9, hq9⟩ : ∃ q, qs[0]? = some q := ⟨_, List.getElem?_eq_getElem (by rw [HL.out]; omega)⟩
          obtain ⟨a9, gq, oq, rfl, hadd9, d9w, -, kb9, -⟩ := HQ.out.at hq9
          obtain ⟨qk9, qd9⟩ := q9
          simp only at d9w kb9
          have had9 : a9 = ⟨gq, oq, none⟩ := by rw [← hadd9]; cases a9 with | mk b o s => cases s <;> simp [Addr.add]
          subst had9
          obtain ⟨s1, s2, s3⟩ := rem_key qk9 K kb9.1 kb9.2 hkeys
          obtain ⟨kk, hkk⟩ : ∃ kk, qk9 % K = kk := ⟨_, rfl⟩
          have kk1 : kk < K := by rw [← hkk]; exact Int.emod_lt_of_pos _ (by omega)
          rw [hkk] at s1 s2 s3
          have kk0 := s2
          clear hn0 hkk hq9 hadd9
          go_wp2_with (first
            | (go_at_call 24; (with_reducible refine (CK.out _).mono ?_); rintro e wk ⟨rfl, hb⟩; have HV9 := (HV.out.up (by repeat' (first | (with_reducible exact Below.refl _ _) | (with_reducible assumption) | (with_reducible refine below_over ?_ _ _) | (with_reducible refine Lw.below_alloc ?_ _) | (with_reducible refine Below.drew ?_) | (with_reducible refine below_drewN ?_ _) | (with_reducible refine Below.setCell ?_ ?_ _) | go_size))).up hb; clear HV x0 x1 x2 x3 x4 x5 c0 e1 e2 e3 e4 e5 hb; have HV := Lib.hid HV9; clear HV9; obtain ⟨x0, x1, x2, x3, x4, x5, c0⟩ := box7 HV.out.i7; obtain ⟨e1, e2, e3, e4, e5⟩ := box5 HV.out.i5)
            | (go_at_call 31; (with_reducible refine (CM.out p F o G _ (skI HV.out.i6) (skI HV.out.i4)).mono ?_); rintro e w6 ⟨rfl, F1, h1, h2, h3⟩; have HV9 := HV.out.turn_6 (skT p F1 c l J) h1 h2 h3; clear HV h1 h2 h3 x0 x1 x2 x3 x4 x5 c0 e1 e2 e3 e4 e5; have HV := Lib.hid HV9; clear HV9; obtain ⟨x0, x1, x2, x3, x4, x5, c0⟩ := box7 HV.out.i7; obtain ⟨e1, e2, e3, e4, e5⟩ := box5 HV.out.i5)
            | (go_at_call 29; (with_reducible refine (D3.out A2 k cap2 _ (UP2.out.up (by repeat' (first | (with_reducible exact Below.refl _ _) | (with_reducible assumption) | (with_reducible refine below_over ?_ _ _) | (with_reducible refine Lw.below_alloc ?_ _) | (with_reducible refine Below.drew ?_) | (with_reducible refine below_drewN ?_ _) | (with_reducible refine Below.setCell ?_ ?_ _) | go_size)))).mono ?_); rintro e w5 ⟨r, R3, rfl, hv⟩; have HVJ := (HVr.out.up (by repeat' (first | (with_reducible exact Below.refl _ _) | (with_reducible assumption) | (with_reducible refine below_over ?_ _ _) | (with_reducible refine Lw.below_alloc ?_ _) | (with_reducible refine Below.drew ?_) | (with_reducible refine below_drewN ?_ _) | (with_reducible refine Below.setCell ?_ ?_ _) | go_size))).join hv; simp only [List.cons_append, List.nil_append] at HVJ; have HV := Lib.hid (HVJ.push (boxT w5.heap.size 31 #[.int .i64 d.bt, .int .i64 d.rw, .int .i64 d.wd, .int .i64 d.md, .int .u64 d.sd]) (Lw.below_alloc (Below.refl _ _) _) (heap_alloc_new w5 _) (fun k hk => Nat.le_of_eq hk.symm)); clear hv HVJ y0 y1 y2 y3 y4 y5 y6 x0 x1 x2 x3 x4 x5 c0 e1 e2 e3 e4 e5; obtain ⟨x0, x1, x2, x3, x4, x5, c0⟩ := box7 HV.out.i7; obtain ⟨e1, e2, e3, e4, e5⟩ := box5 HV.out.i5))
          have d9 := cell_up d9w HV.out.below
          go_region_held3 (fun w' => w'.cell? ⟨w.heap.size, 6, none⟩ = some (.slice (some ⟨gq, oq, none⟩) n0 k0) ∧ w'.cell? ⟨g9, 0, none⟩ = some (.int .i64 c.bt) ∧ w'.cell? ⟨g9, 1, none⟩ = some (.int .i64 c.rw) ∧ w'.cell? ⟨g9, 2, none⟩ = some (.int .i64 c.wd) ∧ w'.cell? ⟨g9, 3, none⟩ = some (.int .i64 c.md) ∧ w'.cell? ⟨g9, 4, none⟩ = some (.int .u64 c.sd) ∧ w'.cell? ⟨gq, oq, none⟩ = some (.int .u64 qk9)) (first | (refine ⟨?_, ?_, ?_, ?_, ?_, ?_, ?_⟩ <;> (first | (with_reducible assumption) | (with_reducible refine cell_up c0 ?_) | (with_reducible refine cell_up e1 ?_) | (with_reducible refine cell_up e2 ?_) | (with_reducible refine cell_up e3 ?_) | (with_reducible refine cell_up e4 ?_) | (with_reducible refine cell_up e5 ?_) | (with_reducible refine cell_up d9 ?_)) <;> (repeat' (first | (with_reducible exact Below.refl _ _) | (with_reducible assumption) | (with_reducible refine below_over ?_ _ _) | (with_reducible refine Lw.below_alloc ?_ _) | (with_reducible refine Below.drew ?_) | (with_reducible refine below_drewN ?_ _) | (with_reducible refine Below.setCell ?_ ?_ _) | go_size)))) (first | (go_at_call 24; (with_reducible refine (CK.out _).mono ?_); rintro e wk ⟨rfl, hb⟩; have HV9 := (HV.out.up (by repeat' (first | (with_reducible exact Below.refl _ _) | (with_reducible assumption) | (with_reducible refine below_over ?_ _ _) | (with_reducible refine Lw.below_alloc ?_ _) | (with_reducible refine Below.drew ?_) | (with_reducible refine below_drewN ?_ _) | (with_reducible refine Below.setCell ?_ ?_ _) | go_size))).up hb; clear HV x0 x1 x2 x3 x4 x5 c0 e1 e2 e3 e4 e5 hb; have HV := Lib.hid HV9; clear HV9; obtain ⟨x0, x1, x2, x3, x4, x5, c0⟩ := box7 HV.out.i7; obtain ⟨e1, e2, e3, e4, e5⟩ := box5 HV.out.i5; clear d9; have d9 := cell_up d9w HV.out.below))
          all_goals clear d9
          obtain ⟨V1, hV1⟩ : ∃ v, ptVal c l J kk = v := ⟨_, rfl⟩
          obtain ⟨V2, hV2⟩ : ∃ v, ptVal d l H3 kk = v := ⟨_, rfl⟩
          obtain ⟨Z, hZ⟩ : ∃ v, hasK kk us = v := ⟨_, rfl⟩
          have hmc := (HMC.out kk kk0 kk1).2
          rw [hV1, hV2, hZ] at hmc
          have CPA : Hid (∀ w', SK w' p F1 c l J → Calls Try.prog 32 #[.pointer (some p), .int .u64 kk] w' fun e w2 => e = .returned (.tuple #[.int .i64 V1, .int .i64 0]) ∧ Below w'.heap.size w' w2) := Lib.hid (fun w' h => by
            have C := CP1.out p F1 kk w' h kk0 (by omega)
            rw [hV1, PK1.out kk kk1] at C
            exact C)
          have CPB : Hid (∀ w', SK w' r R3 d l H3 → Calls Try.prog 32 #[.pointer (some r), .int .u64 kk] w' fun e w2 => e = .returned (.tuple #[.int .i64 V2, .int .i64 0]) ∧ Below w'.heap.size w' w2) := Lib.hid (fun w' h => by
            have C := CP2.out r R3 kk w' h kk0 (by omega)
            rw [hV2, PK2.out kk kk1] at C
            exact C)
          have CHZ := Lib.hid (fun w hq => CH.out kk w hq)
          rw [hZ] at CHZ
          have f1 : V1 ≥ Z := hmc.1
          have f2 : V1 ≤ V2 := hmc.2
          have f3 : decide (Z ≤ V1) = true := decide_eq_true hmc.1
          have f4 : decide (V1 ≤ V2) = true := decide_eq_true hmc.2
          clear hV1 hV2 hZ hmc r1 r2 r3 hRK hkeys hkb hlb hbt8
          go_wp2_with (first
            | (go_at_call 32; (with_reducible refine (CPA.out _ (skI HV.out.i6)).mono ?_); rintro e wp ⟨rfl, hb⟩; have HV9 := (HV.out.up (by repeat' (first | (with_reducible exact Below.refl _ _) | (with_reducible assumption) | (with_reducible refine below_over ?_ _ _) | (with_reducible refine Lw.below_alloc ?_ _) | (with_reducible refine Below.drew ?_) | (with_reducible refine below_drewN ?_ _) | (with_reducible refine Below.setCell ?_ ?_ _) | go_size))).up hb; clear HV x0 x1 x2 x3 x4 x5 c0 e1 e2 e3 e4 e5 hb; have HV := Lib.hid HV9; clear HV9; obtain ⟨x0, x1, x2, x3, x4, x5, c0⟩ := box7 HV.out.i7; obtain ⟨e1, e2, e3, e4, e5⟩ := box5 HV.out.i5)
            | (go_at_call 32; (with_reducible refine (CPB.out _ (skI HV.out.i1)).mono ?_); rintro e wq ⟨rfl, hb⟩; have HV9 := (HV.out.up (by repeat' (first | (with_reducible exact Below.refl _ _) | (with_reducible assumption) | (with_reducible refine below_over ?_ _ _) | (with_reducible refine Lw.below_alloc ?_ _) | (with_reducible refine Below.drew ?_) | (with_reducible refine below_drewN ?_ _) | (with_reducible refine Below.setCell ?_ ?_ _) | go_size))).up hb; clear HV x0 x1 x2 x3 x4 x5 c0 e1 e2 e3 e4 e5 hb; have HV := Lib.hid HV9; clear HV9; obtain ⟨x0, x1, x2, x3, x4, x5, c0⟩ := box7 HV.out.i7; obtain ⟨e1, e2, e3, e4, e5⟩ := box5 HV.out.i5)
            | (go_at_call 33; (with_reducible refine (CHZ.out _ (HQ.out.up HV.out.below)).mono ?_); rintro e wh ⟨rfl, hb⟩; have HVz := Lib.hid (HV.out.up hb); clear hb))
          all_goals go_ret
          all_goals exact ⟨ret_bs (by first | rfl | (simp [*]; done)), HVz.out.below⟩
        · obtain ⟨q9, hq9⟩ : ∃ q, qs[0]? = some q := ⟨_, List.getElem?_eq_getElem (by rw [HL.out]; omega)⟩
          obtain ⟨a9, -, -, rfl, -⟩ := HQ.out.at hq9
          clear hn0 hq9
          obtain ⟨kk, hkk⟩ : ∃ kk, R = kk := ⟨_, rfl⟩
          rw [hkk] at r1 r2 hRK hev
          have kk0 := r2
          have kk1 := hRK
          go_wp2_with (first
            | (go_at_call 24; (with_reducible refine (CK.out _).mono ?_); rintro e wk ⟨rfl, hb⟩; have HV9 := (HV.out.up (by repeat' (first | (with_reducible exact Below.refl _ _) | (with_reducible assumption) | (with_reducible refine below_over ?_ _ _) | (with_reducible refine Lw.below_alloc ?_ _) | (with_reducible refine Below.drew ?_) | (with_reducible refine below_drewN ?_ _) | (with_reducible refine Below.setCell ?_ ?_ _) | go_size))).up hb; clear HV x0 x1 x2 x3 x4 x5 c0 e1 e2 e3 e4 e5 hb; have HV := Lib.hid HV9; clear HV9; obtain ⟨x0, x1, x2, x3, x4, x5, c0⟩ := box7 HV.out.i7; obtain ⟨e1, e2, e3, e4, e5⟩ := box5 HV.out.i5)
            | (go_at_call 31; (with_reducible refine (CM.out p F o G _ (skI HV.out.i6) (skI HV.out.i4)).mono ?_); rintro e w6 ⟨rfl, F1, h1, h2, h3⟩; have HV9 := HV.out.turn_6 (skT p F1 c l J) h1 h2 h3; clear HV h1 h2 h3 x0 x1 x2 x3 x4 x5 c0 e1 e2 e3 e4 e5; have HV := Lib.hid HV9; clear HV9; obtain ⟨x0, x1, x2, x3, x4, x5, c0⟩ := box7 HV.out.i7; obtain ⟨e1, e2, e3, e4, e5⟩ := box5 HV.out.i5)
            | (go_at_call 29; (with_reducible refine (D3.out A2 k cap2 _ (UP2.out.up (by repeat' (first | (with_reducible exact Below.refl _ _) | (with_reducible assumption) | (with_reducible refine below_over ?_ _ _) | (with_reducible refine Lw.below_alloc ?_ _) | (with_reducible refine Below.drew ?_) | (with_reducible refine below_drewN ?_ _) | (with_reducible refine Below.setCell ?_ ?_ _) | go_size)))).mono ?_); rintro e w5 ⟨r, R3, rfl, hv⟩; have HVJ := (HVr.out.up (by repeat' (first | (with_reducible exact Below.refl _ _) | (with_reducible assumption) | (with_reducible refine below_over ?_ _ _) | (with_reducible refine Lw.below_alloc ?_ _) | (with_reducible refine Below.drew ?_) | (with_reducible refine below_drewN ?_ _) | (with_reducible refine Below.setCell ?_ ?_ _) | go_size))).join hv; simp only [List.cons_append, List.nil_append] at HVJ; have HV := Lib.hid (HVJ.push (boxT w5.heap.size 31 #[.int .i64 d.bt, .int .i64 d.rw, .int .i64 d.wd, .int .i64 d.md, .int .u64 d.sd]) (Lw.below_alloc (Below.refl _ _) _) (heap_alloc_new w5 _) (fun k hk => Nat.le_of_eq hk.symm)); clear hv HVJ y0 y1 y2 y3 y4 y5 y6 x0 x1 x2 x3 x4 x5 c0 e1 e2 e3 e4 e5; obtain ⟨x0, x1, x2, x3, x4, x5, c0⟩ := box7 HV.out.i7; obtain ⟨e1, e2, e3, e4, e5⟩ := box5 HV.out.i5))
          obtain ⟨V1, hV1⟩ : ∃ v, ptVal c l J kk = v := ⟨_, rfl⟩
          obtain ⟨V2, hV2⟩ : ∃ v, ptVal d l H3 kk = v := ⟨_, rfl⟩
          obtain ⟨Z, hZ⟩ : ∃ v, hasK kk us = v := ⟨_, rfl⟩
          have hmc := (HMC.out kk kk0 kk1).2
          rw [hV1, hV2, hZ] at hmc
          have CPA : Hid (∀ w', SK w' p F1 c l J → Calls Try.prog 32 #[.pointer (some p), .int .u64 kk] w' fun e w2 => e = .returned (.tuple #[.int .i64 V1, .int .i64 0]) ∧ Below w'.heap.size w' w2) := Lib.hid (fun w' h => by
            have C := CP1.out p F1 kk w' h kk0 (by omega)
            rw [hV1, PK1.out kk kk1] at C
            exact C)
          have CPB : Hid (∀ w', SK w' r R3 d l H3 → Calls Try.prog 32 #[.pointer (some r), .int .u64 kk] w' fun e w2 => e = .returned (.tuple #[.int .i64 V2, .int .i64 0]) ∧ Below w'.heap.size w' w2) := Lib.hid (fun w' h => by
            have C := CP2.out r R3 kk w' h kk0 (by omega)
            rw [hV2, PK2.out kk kk1] at C
            exact C)
          have CHZ := Lib.hid (fun w hq => CH.out kk w hq)
          rw [hZ] at CHZ
          have f1 : V1 ≥ Z := hmc.1
          have f2 : V1 ≤ V2 := hmc.2
          have f3 : decide (Z ≤ V1) = true := decide_eq_true hmc.1
          have f4 : decide (V1 ≤ V2) = true := decide_eq_true hmc.2
          clear hV1 hV2 hZ hmc r1 r2 r3 hRK hkeys hkb hlb hbt8
          go_wp2_with (first
            | (go_at_call 32; (with_reducible refine (CPA.out _ (skI HV.out.i6)).mono ?_); rintro e wp ⟨rfl, hb⟩; have HV9 := (HV.out.up (by repeat' (first | (with_reducible exact Below.refl _ _) | (with_reducible assumption) | (with_reducible refine below_over ?_ _ _) | (with_reducible refine Lw.below_alloc ?_ _) | (with_reducible refine Below.drew ?_) | (with_reducible refine below_drewN ?_ _) | (with_reducible refine Below.setCell ?_ ?_ _) | go_size))).up hb; clear HV x0 x1 x2 x3 x4 x5 c0 e1 e2 e3 e4 e5 hb; have HV := Lib.hid HV9; clear HV9; obtain ⟨x0, x1, x2, x3, x4, x5, c0⟩ := box7 HV.out.i7; obtain ⟨e1, e2, e3, e4, e5⟩ := box5 HV.out.i5)
            | (go_at_call 32; (with_reducible refine (CPB.out _ (skI HV.out.i1)).mono ?_); rintro e wq ⟨rfl, hb⟩; have HV9 := (HV.out.up (by repeat' (first | (with_reducible exact Below.refl _ _) | (with_reducible assumption) | (with_reducible refine below_over ?_ _ _) | (with_reducible refine Lw.below_alloc ?_ _) | (with_reducible refine Below.drew ?_) | (with_reducible refine below_drewN ?_ _) | (with_reducible refine Below.setCell ?_ ?_ _) | go_size))).up hb; clear HV x0 x1 x2 x3 x4 x5 c0 e1 e2 e3 e4 e5 hb; have HV := Lib.hid HV9; clear HV9; obtain ⟨x0, x1, x2, x3, x4, x5, c0⟩ := box7 HV.out.i7; obtain ⟨e1, e2, e3, e4, e5⟩ := box5 HV.out.i5)
            | (go_at_call 33; (with_reducible refine (CHZ.out _ (HQ.out.up HV.out.below)).mono ?_); rintro e wh ⟨rfl, hb⟩; have HVz := Lib.hid (HV.out.up hb); clear hb))
          all_goals go_ret
          all_goals exact ⟨ret_bs (by first | rfl | (simp [*]; done)), HVz.out.below⟩
namespace sketchBounds
open Go.ChangeShapes Go.WideShapes Go.ChangeAt Go.Joins
set_option maxRecDepth 100000 in
theorem lifted (os : Os) (started : os.Started) (H : Type) (enc : TypeId × Value → H) :
    ReturnsInHanded {} Try.checked os 9 .any (Rows.sketchBoundsSpec.pre6 enc Try.prog Try.f9 Rows.sketchBoundsRow.domain false) (Rows.sketchBoundsSpec.post enc Try.prog Try.f9 false true false false) := by
  refine Lw.lifted (C := Try.checked) (B := 4) (by kernel_rfl) os started (by kernel_rfl) Try.func9
    (ChangeSpec.witness6 (enc := enc) (C := Try.checked) false ⟨#[], #[.agg #[.int .i64 0, .int .i64 0, .int .i64 0, .int .i64 0, .int .u64 0, .int .i64 0, .slice none 0 0], .int .i64 0, .int .u64 0], []⟩ 8 (by kernel_rfl) (by kernel_rfl) (by kernel_rfl) (by kernel_rfl)) rfl Try.underlying4 (by kernel_rfl) (by kernel_rfl) (by kernel_rfl) ?_ ?_
  · intro ds h
    rw [Try.params9] at h
    match ds, h with
    | [_, _, _], _ => rfl
  · intro W base args ds p hval hA
    rw [Try.params9] at hA hval
    obtain ⟨v0, vs0, d0, ds0, p0, q0, hargs, rfl, rfl, h0, r0⟩ := trodAll_cons hA
    obtain ⟨v1, vs1, d1, ds1, p1, q1, rfl, rfl, rfl, h1, r1⟩ := trodAll_cons r0
    obtain ⟨v2, vs2, d2, ds2, p2, q2, rfl, rfl, rfl, h2, r2⟩ := trodAll_cons r1
    obtain ⟨rfl, rfl, rfl⟩ := trodAll_nil r2
    obtain rfl : args = #[v0, v1, v2] := by cases args; simp_all
    obtain ⟨x0, lv0, A0, n0, k0, qs0, rfl, hx0, hlv0, hq0⟩ := open_playS (hval 0 64 v0 rfl rfl) h0
    obtain ⟨a1, rfl, rfl, rfl, w1⟩ := open_int Try.underlying3 (hval 1 3 v1 rfl rfl) h1
    have b1 := Lw.wf_i64 w1
    obtain ⟨a2, rfl, rfl, rfl, w2⟩ := open_int Try.underlying24 (hval 2 24 v2 rfl rfl) h2
    have b2 := Lw.wf_u64 w2
    exact bounds_law x0 lv0 A0 n0 k0 qs0 a1 a2 W hx0 hlv0 hq0 b2.1 b2.2
theorem over : Rows.sketchBoundsRow.holds Try.pinned (OpenSpec.ofChange Rows.sketchBoundsSpec) :=
  OpenClaim.holds_of_wide 9 Try.f9 rfl rfl rfl rfl rfl rfl rfl ⟨rfl, rfl, rfl, rfl, rfl⟩ rfl rfl rfl rfl rfl (by kernel_rfl) Try.func9 (by kernel_rfl)
    (of_decide_eq_true (by kernel_rfl)) (by unfold Func.isWrapper; first | (rw [if_pos (by decide +kernel)]; kernel_rfl) | (rw [if_neg (by decide +kernel)]; exact ⟨rfl, rfl⟩))
    (fun os started H enc _ => lifted os started H enc)
theorem proved : Rows.SketchBoundsSaid :=
  over
#print axioms proved
end sketchBounds
end Go.Proofs.Ythecgkgnngpikaa.Sk
