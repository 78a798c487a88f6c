/- The walks of package order: Kth looks for the number at a place by parting numbers halfway between their ends; Min and Median ask it. -/
import Derived.Test.YtonbidohhgenlaaRows
import Derived.Test.YtonbidohhgenlaaOrdMid
import Derived.Deep.LoopGhost
import Derived.Deep.RegionHeld3
import Derived.Deep.QuietTactic
import Derived.BigQuiet
import Derived.Laws.Cover3
import Derived.WalkMore
namespace Go.Proofs.Ytonbidohhgenlaa.Ord
open Go Go.RowKit Lw
set_option linter.unusedVariables false
set_option linter.unusedSimpArgs false
theorem ret_ok {a b : Int} {p q : Bool} (h : a = b) (g : p = q) : Ending.returned (.tuple #[.int .i64 a, .bool p]) = .returned (.tuple #[.int .i64 b, .bool q]) := by rw [h, g]
theorem oi64_info : (Try.prog.info? 2).map (fun i => (i.zero, i.size, i.bytes)) = some (some (.int .i64 0), 1, 8) := by kernel_rfl
theorem oi64s_u : Try.prog.underlying 37 = some (.slice 2) := by kernel_rfl
theorem halfway_any (a b : Int) (w : World) (a0 : -9223372036854775808 ≤ a) (a1 : a ≤ 9223372036854775807) (b0 : -9223372036854775808 ≤ b) (b1 : b ≤ 9223372036854775807) :
    Calls Try.prog 59 #[.int .i64 a, .int .i64 b] w fun e w' => e = .returned (.int .i64 ((a + b) / 2)) ∧ w' = w := by
  have e := half_eq a b a0 a1 b0 b1
  have e2 := and_bd a b
  have e3 := xor_bd a b
  go_enter Try.func59, Try.ntmps59
  go_wp2
  go_ret
  exact ⟨rfl, rfl⟩
/-- What ends tells. -/
def Ends (zs : List Int) (lo hi : Int) : Prop := lo ∈ zs ∧ hi ∈ zs ∧ ∀ v ∈ zs, lo ≤ v ∧ v ≤ hi
set_option maxRecDepth 100000 in
theorem ends_any (ad : Addr) (n cap : Nat) (zs : List Int) (w : World) (hn : n ≤ cap) (hcap : cap ≤ maxLen) (hr : Rd .i64 w (some ad) zs) (hl : zs.length = n) (h1 : 0 < n) (hs : n ≤ 1000) (hz : In64 zs) :
    Calls Try.prog 60 #[.slice (some ad) n cap] w fun e w' => ∃ lo hi, e = .returned (.tuple #[.int .i64 lo, .int .i64 hi]) ∧ Ends zs lo hi ∧ Below w.heap.size w w' := by
  have HR := Lib.hid hr
  have HZ := Lib.hid hz
  have HL := Lib.hid hl
  unfold maxLen at hcap
  have h1' : 0 < zs.length := by omega
  have c0 := HR.out.at (j := 0) (v := zs[0]) (List.getElem?_eq_getElem h1')
  have ca0 : ad.add 0 = ad := by unfold Addr.add; simp
  obtain ⟨f, hf⟩ : ∃ f, f = zs[0] := ⟨_, rfl⟩
  rw [← hf] at c0
  have hfm : f ∈ zs := by rw [hf]; exact List.getElem_mem h1'
  have fb := HZ.out f hfm
  have HF := Lib.hid hfm
  have h0n : (0 : Int) < n := by omega
  rw [ca0] at c0
  clear hf hfm hl hr hz h1'
  go_enter Try.func60, Try.ntmps60
  go_wp2
  go_quiet (fail)
  go_wp2
  go_loopw [2, 3, 14] (fun a b i wr => ∃ (k d : Nat) (x y : Int), k ≤ n ∧ i = .int .i64 k ∧ a = .int .i64 x ∧ b = .int .i64 y ∧ x ∈ zs ∧ y ∈ zs ∧ (∀ v ∈ zs.take k, x ≤ v ∧ v ≤ y) ∧ wr = w.drewN d) (fun _ _ i _ => n - (intOf i).toNat)
  case atStart => exact ⟨0, _, f, f, Nat.zero_le _, rfl, rfl, rfl, HF.out, HF.out, fun v hv => by simp at hv, rfl⟩
  case round =>
    obtain ⟨k, d, x, y, hk, rfl, rfl, rfl, hx, hy, hall, rfl⟩ := hrel
    have xb := HZ.out x hx
    have yb := HZ.out y hy
    have HX := Lib.hid hx
    have HY := Lib.hid hy
    have HA := Lib.hid hall
    clear hx hy hall
    by_cases hlt : k < n
    · have hkl : k < zs.length := by have := HL.out; omega
      obtain ⟨v, hv⟩ : ∃ v, zs[k]? = some v := ⟨_, List.getElem?_eq_getElem hkl⟩
      have hc := HR.out.at hv
      have hvm := List.mem_of_getElem? hv
      have vb := HZ.out v hvm
      have HV := Lib.hid hvm
      have HN := Lib.hid (take_next zs k v hv)
      clear hv hvm
      by_cases h2 : v < x
      · by_cases h3 : y < v
        · go_wp2
          go_roundw
          case rel => exact ⟨k + 1, _, v, v, by omega, by go_num, rfl, rfl, HV.out, HV.out, fun u hu => by rw [HN.out] at hu; rcases List.mem_append.1 hu with h4 | h4; (have := HA.out u h4; omega); (simp at h4; omega), rfl⟩
          case measure => simp [intOf]; omega
        · go_wp2
          go_roundw
          case rel => exact ⟨k + 1, _, v, y, by omega, by go_num, rfl, rfl, HV.out, HY.out, fun u hu => by rw [HN.out] at hu; rcases List.mem_append.1 hu with h4 | h4; (have := HA.out u h4; omega); (simp at h4; omega), rfl⟩
          case measure => simp [intOf]; omega
      · by_cases h3 : y < v
        · go_wp2
          go_roundw
          case rel => exact ⟨k + 1, _, x, v, by omega, by go_num, rfl, rfl, HX.out, HV.out, fun u hu => by rw [HN.out] at hu; rcases List.mem_append.1 hu with h4 | h4; (have := HA.out u h4; omega); (simp at h4; omega), rfl⟩
          case measure => simp [intOf]; omega
        · go_wp2
          go_roundw
          case rel => exact ⟨k + 1, _, x, y, by omega, by go_num, rfl, rfl, HX.out, HY.out, fun u hu => by rw [HN.out] at hu; rcases List.mem_append.1 hu with h4 | h4; (have := HA.out u h4; omega); (simp at h4; omega), rfl⟩
          case measure => simp [intOf]; omega
    · have e : k = n := by omega
      subst e
      have E : Hid (Ends zs x y) := Lib.hid ⟨HX.out, HY.out, fun v hv => HA.out v (by rw [List.take_of_length_le (by have := HL.out; omega)]; exact hv)⟩
      go_wp2
      go_ret2
      exact ⟨x, y, rfl, E.out, below_drewN (Below.refl _ _) _⟩
theorem addr_letter (g i : Nat) : ∃ ad : Addr, (⟨g, i, none⟩ : Addr) = ad := ⟨_, rfl⟩
set_option maxRecDepth 100000 in
theorem part_any (g i n cap : Nat) (zs : List Int) (b : Int) (w : World) (hn : n ≤ cap) (hcap : cap ≤ maxLen) (hm : Mid w g i zs) (hl : zs.length = n) (h1 : 0 < n) (hs : n ≤ 1000) (hz : In64 zs) (b0 : -9223372036854775808 ≤ b) (b1 : b ≤ 9223372036854775807) :
    Calls Try.prog 58 #[.slice (some ⟨g, i, none⟩) n cap, .int .i64 b] w fun e w' => ∃ (c : Nat) (ys : List Int) (B : Option Addr), e = .returned (.tuple #[.slice (some ⟨g, i, none⟩) c cap, .slice B (n - c) (cap - c)]) ∧ Parts zs b ys c n ∧ (c < n → B = some ⟨g, i + c, none⟩) ∧ Mid w' g i ys ∧ Kept (fun q => q = g) w w' := by
  have HM := Lib.hid hm
  have HZ := Lib.hid hz
  have HL := Lib.hid hl
  unfold maxLen at hcap
  clear hm hz hl
  obtain ⟨ad, had⟩ := addr_letter g i
  have HAD := Lib.hid had
  rw [had]
  clear had
  go_enter Try.func58, Try.ntmps58
  go_wp2
  go_loopw [6, 11] (fun ct ix wr => ∃ (c k : Nat) (ys : List Int), k ≤ n ∧ ct = .int .i64 c ∧ ix = .int .i64 k ∧ Parts zs b ys c k ∧ Mid wr g i ys ∧ Kept (fun q => q = g) w wr) (fun _ ix _ => n - (intOf ix).toNat)
  case atStart => exact ⟨0, 0, zs, Nat.zero_le _, rfl, rfl, Parts.start _ _, HM.out, Kept.refl _ _⟩
  case round =>
    obtain ⟨c, k, ys, hk, rfl, rfl, hp, hmid, hkept⟩ := hrel
    have hck := hp.ck
    have hyl : ys.length = n := by rw [hp.perm.length_eq]; exact HL.out
    have HP := Lib.hid hp
    have HMI := Lib.hid hmid
    have HK := Lib.hid hkept
    have HYL := Lib.hid hyl
    have HYZ : Hid (In64 ys) := Lib.hid (fun v hv => HZ.out v (hp.perm.mem_iff.1 hv))
    clear hp hmid hkept hyl
    by_cases hlt : k < n
    · have hkl : k < ys.length := by have := HYL.out; omega
      have hcl : c < ys.length := by have := HYL.out; omega
      obtain ⟨x, hx⟩ : ∃ x, ys[k]? = some x := ⟨_, List.getElem?_eq_getElem hkl⟩
      obtain ⟨y, hy⟩ : ∃ y, ys[c]? = some y := ⟨_, List.getElem?_eq_getElem hcl⟩
      have xb := HYZ.out.at hx
      have yb := HYZ.out.at hy
      have cx := HMI.out.rd.at hx
      have cy := HMI.out.rd.at hy
      have fx := HMI.out.frozen (i + k)
      have fy := HMI.out.frozen (i + c)
      have m1 := HMI.out.set k y
      have m2 := m1.set c x
      have cy1 := m1.rd.at (j := c) (v := (if k = c then y else y)) (by rw [List.getElem?_set]; by_cases e : k = c <;> simp [e, hy]; omega)
      have fy1 := m1.frozen (i + c)
      have k1 : Kept (fun q => q = g) w ((wr.setCell ⟨g, i + k, none⟩ (.int .i64 y)).setCell ⟨g, i + c, none⟩ (.int .i64 x)) := (HK.out.set (.inl rfl) _ _).set (.inl rfl) _ _
      simp only [← add_at, HAD.out] at cx cy fx fy m1 m2 cy1 fy1 k1
      have M2 := Lib.hid m2
      have K1 := Lib.hid k1
      have PS := fun h => HP.out.swap hx hy h
      have PP := fun h => HP.out.past hx h
      have HPS := Lib.hid PS
      have HPP := Lib.hid PP
      simp only [ite_self] at cy1
      clear m1 m2 k1 PS PP hx hy
      by_cases h2 : x ≤ b
      · go_wp2
        go_roundw
        case rel => exact ⟨c + 1, k + 1, _, by omega, by go_num, by go_num, HPS.out h2, M2.out, K1.out⟩
        case measure => simp [intOf]; omega
      · go_wp2
        go_roundw
        case rel => exact ⟨c, k + 1, ys, by omega, rfl, by go_num, HPP.out (by omega), HMI.out, HK.out⟩
        case measure => simp [intOf]; omega
    · have e : k = n := by omega
      subst e
      have hcap0 : ¬ cap = 0 := by omega
      have ca0 : ad.add 0 = ad := by unfold Addr.add; simp
      have AC : Hid (some (ad.add c) = some (⟨g, i + c, none⟩ : Addr)) := Lib.hid (by rw [← HAD.out, add_at])
      by_cases hcc : cap = c
      · have e2 : k = c := by omega
        subst e2
        subst hcc
        go_wp2
        go_quiet (fail)
        go_wp2
        go_ret2
        exact ⟨cap, ys, some ad, by rw [Nat.sub_self]; rfl, HP.out, fun h => by omega, HMI.out.keep (Kept.of_below (F := fun _ => False) (below_drewN (Below.refl _ _) _)) (fun h => h), HK.out.drewN _⟩
      · go_wp2
        go_quiet (fail)
        go_wp2
        go_ret2
        exact ⟨c, ys, _, rfl, HP.out, fun h => AC.out, HMI.out.keep (Kept.of_below (F := fun _ => False) (below_drewN (Below.refl _ _) _)) (fun h => h), HK.out.drewN _⟩
/-- One number, the k-th of all: what Kth holds on to. -/
def Rest (w wr : World) (R : Int) (k : Int) (g i n cap : Nat) (zs : List Int) (K : Nat) : Prop :=
  k = K ∧ K < n ∧ zs.length = n ∧ n ≤ cap ∧ cap ≤ maxLen ∧ n ≤ 1000 ∧ In64 zs ∧ kth zs K = R ∧ Mid wr g i zs ∧ w.heap.size ≤ g ∧ Below w.heap.size w wr
theorem in64_perm {ys zs : List Int} (h : ys.Perm zs) (hz : In64 zs) : In64 ys := fun v hv => hz v (h.mem_iff.1 hv)
theorem kept_below {w wr w' : World} {g : Nat} (h : Kept (fun q => q = g) wr w') (hb : Below w.heap.size w wr) (hg : w.heap.size ≤ g) : Below w.heap.size w w' :=
  h.low hb hb.size (fun q hq => by subst hq; exact hg)
/-- All are within: all are the same. -/
theorem rest_same {zs ys : List Int} {lo hi : Int} {n K : Nat} (he : Ends zs lo hi) (hp : Parts zs ((lo + hi) / 2) ys n n) (hl : zs.length = n) (hK : K < n) : ∀ v, ys[0]? = some v → v = kth zs K := by
  intro v hv
  have hyl : ys.length = n := by rw [hp.perm.length_eq]; exact hl
  have h1 : hi ∈ ys := hp.perm.mem_iff.2 he.2.1
  obtain ⟨j, hj, e⟩ := List.mem_iff_getElem.1 h1
  have h2 := hp.lo j hi (by rw [List.getElem?_eq_getElem hj, e]) (by omega)
  have h3 := (he.2.2 hi he.2.1).1
  have h4 := he.2.2 v (hp.perm.mem_iff.1 (List.mem_of_getElem? hv))
  have h5 := he.2.2 _ (kth_mem zs K (by omega))
  omega
theorem rest_within {w wr w' : World} {R k lo hi : Int} {g i n cap K c : Nat} {zs ys : List Int} (h : Rest w wr R k g i n cap zs K) (hp : Parts zs ((lo + hi) / 2) ys c n) (hc : K < c) (hm : Mid w' g i ys) (hk : Kept (fun q => q = g) wr w') :
    Rest w w' R k g i c cap (ys.take c) K := by
  obtain ⟨h1, h2, h3, h4, h5, h6, h7, h8, h9, h10, h11⟩ := h
  have hyl : ys.length = n := by rw [hp.perm.length_eq]; exact h3
  rw [← hyl] at hp
  obtain ⟨p1, p2, p3⟩ := hp.upto
  have hck := hp.ck
  refine ⟨h1, hc, by rw [List.length_take]; omega, by omega, h5, by omega, in64_take (in64_perm hp.perm h7) c, ?_, hm.take c, h10, kept_below hk h11 h10⟩
  rw [kth_within p2 p3 (by omega) hc, ← h8]
  exact kth_perm hp.perm K
theorem rest_beyond {w wr w' : World} {R k lo hi : Int} {g i n cap K c : Nat} {zs ys : List Int} (h : Rest w wr R k g i n cap zs K) (hp : Parts zs ((lo + hi) / 2) ys c n) (hc : c ≤ K) (hm : Mid w' g i ys) (hk : Kept (fun q => q = g) wr w') :
    Rest w w' R (k - c) g (i + c) (n - c) (cap - c) (ys.drop c) (K - c) := by
  obtain ⟨h1, h2, h3, h4, h5, h6, h7, h8, h9, h10, h11⟩ := h
  have hyl : ys.length = n := by rw [hp.perm.length_eq]; exact h3
  rw [← hyl] at hp
  obtain ⟨p1, p2, p3⟩ := hp.upto
  have hck := hp.ck
  refine ⟨by omega, by omega, by rw [List.length_drop]; omega, by omega, by unfold maxLen at h5 ⊢; omega, by omega, in64_drop (in64_perm hp.perm h7) c, ?_, hm.drop c, h10, kept_below hk h11 h10⟩
  rw [kth_beyond p2 p3 (by omega) hc (by omega), ← h8]
  exact kth_perm hp.perm K
/-- Some are within. -/
theorem rest_some {zs ys : List Int} {lo hi : Int} {c n : Nat} (he : Ends zs lo hi) (hp : Parts zs ((lo + hi) / 2) ys c n) (hl : zs.length = n) : 0 < c := by
  rcases Nat.eq_zero_or_pos c with rfl | h
  · have hyl : ys.length = n := by rw [hp.perm.length_eq]; exact hl
    have h1 : lo ∈ ys := hp.perm.mem_iff.2 he.1
    obtain ⟨j, hj, e⟩ := List.mem_iff_getElem.1 h1
    have h2 := hp.hi j lo (by rw [List.getElem?_eq_getElem hj, e]) (by omega) (by omega)
    have h3 := (he.2.2 hi he.2.1).1
    omega
  · exact h
theorem eql_nil {P : Program} (w : World) (t e : TypeId) (a : Option Addr) (l c : Nat) (h : P.underlying t = some (.slice e)) : (binOp .eql t (.slice a l c) (.slice none 0 0)).run P w = .ok (.bool a.isNone) w := by
  simp only [binOp]
  simp [run_equal_slice_nil w t e a l c h]
theorem clone_any (A : Option Addr) (n cap : Nat) (zs : List Int) (w : World) (hA : A = none → n = 0 ∧ cap = 0) (hn : n ≤ cap) (hcap : cap ≤ maxLen) (hr : Rd .i64 w A zs) (hl : zs.length = n) (h1 : 0 < n) (hs : n ≤ 1000) :
    Calls Try.prog 30 #[.slice A n cap] w fun e w' => ∃ (g cap2 : Nat), e = .returned (.slice (some ⟨g, 0, none⟩) n cap2) ∧ Mid w' g 0 zs ∧ w.heap.size ≤ g ∧ n ≤ cap2 ∧ cap2 ≤ maxLen ∧ Below w.heap.size w w' := by
  obtain ⟨i0, hi, hz0, hz1, hz2⟩ := info_parts oi64_info
  obtain ⟨ad, rfl⟩ := hr.some_of (by omega)
  have HR := Lib.hid hr
  have HL := Lib.hid hl
  unfold maxLen at hcap
  have hq : ∀ w', (binOp .eql 37 (.slice (some ad) n cap) (.slice none 0 0)).run Try.prog w' = .ok (.bool false) w' := fun w' => eql_nil w' _ _ (some ad) n cap oi64s_u
  clear hr hA hl
  go_enter Try.func30, Try.ntmps30
  go_wp2_with (at_builtin; refine app_any .i64 rfl _ _ 37 rfl w.heap.size 2 i0 8 oi64s_u hi hz0 hz1 hz2 (.slice (some ⟨w.heap.size, 0, none⟩) 0 0) 0 [] rfl (own_empty w _ _ _ (Nat.le_refl _)) (fun h => by cases h) (some ad) n cap zs rfl (by simp) HL.out (HR.out.up (Lw.below_alloc (Below.refl _ _) _)) (by unfold maxLen; omega) (by omega) (by simp) ?_; intro A6 cap6 w6 own6 grow6 rd6 c6 d6; have hb6 : Below w.heap.size w w6 := app_below grow6 (Nat.le_refl _); (simp only [Nat.zero_add, List.nil_append] at own6 c6); (simp only [Nat.zero_add]); clear grow6 rd6)
  go_ret
  obtain ⟨g, rfl, hg, hm⟩ := mid_own own6
  exact ⟨g, cap6, rfl, hm, hg, c6, d6, hb6⟩
def slen : Value → Nat
  | .slice _ n _ => n
  | _ => 0
theorem in64_ends {zs : List Int} {lo hi : Int} (hz : In64 zs) (he : Ends zs lo hi) : -9223372036854775808 ≤ lo ∧ lo ≤ 9223372036854775807 ∧ -9223372036854775808 ≤ hi ∧ hi ≤ 9223372036854775807 :=
  ⟨(hz _ he.1).1, (hz _ he.1).2, (hz _ he.2.1).1, (hz _ he.2.1).2⟩
set_option maxRecDepth 100000 in
set_option maxHeartbeats 4000000 in
theorem kth_any (A : Option Addr) (n cap : Nat) (zs : List Int) (k : Int) (w : World) (hA : A = none → n = 0 ∧ cap = 0) (hn : n ≤ cap) (hcap : cap ≤ maxLen) (hr : Rd .i64 w A zs) (hl : zs.length = n) (hs : n ≤ 1000) (hz : In64 zs) (k0 : -9223372036854775808 ≤ k) (k1 : k ≤ 9223372036854775807) :
    Calls Try.prog 57 #[.slice A n cap, .int .i64 k] w fun e w' => e = .returned (.tuple #[.int .i64 (kv zs (k)), .bool (kb zs (k))]) ∧ Below w.heap.size w w' := by
  have HR := Lib.hid hr
  have HZ := Lib.hid hz
  have HL := Lib.hid hl
  have HA := Lib.hid hA
  unfold maxLen at hcap
  by_cases h0 : 0 ≤ k ∧ k < n
  · obtain ⟨g0, g1⟩ := h0
    obtain ⟨K, rfl⟩ : ∃ K : Nat, k = K := ⟨k.toNat, by omega⟩
    have e := kv_yes (l := zs) (k := (K : Int)) g0 (by omega)
    have e1 : kv zs K = kth zs K := e.1
    have E1 := Lib.hid e1
    have E2 := Lib.hid e.2
    have hKn : K < n := by omega
    have h1 : 0 < n := by omega
    clear e e1 hr hz hl hA g0 k0
    go_enter Try.func57, Try.ntmps57
    go_wp2
    go_step3
    go_wp2_with (go_at_call 30; (with_reducible refine (clone_any A n cap zs _ HA.out hn (by unfold maxLen; omega) HR.out HL.out h1 hs).mono ?_); rintro e w2 ⟨g, cap2, rfl, hm2, hg2, hc2, hd2, hb2⟩)
    have HR2 : Hid (Rest w w2 (kth zs K) K g 0 n cap2 zs K) := Lib.hid ⟨rfl, hKn, HL.out, hc2, hd2, hs, HZ.out, rfl, hm2, hg2, hb2⟩
    clear hm2 hb2 hc2 hd2
    go_step3
    go_wp2
    go_loopw [1, 6] (fun kk r wr => ∃ (i m cp : Nat) (ys : List Int) (J : Nat), kk = .int .i64 J ∧ r = .slice (some ⟨g, i, none⟩) m cp ∧ Rest w wr (kth zs K) J g i m cp ys J) (fun _ r _ => slen r)
    case atStart => exact ⟨0, n, cap2, zs, K, rfl, rfl, HR2.out⟩
    case round =>
      obtain ⟨i, m, cp, ys, J, rfl, rfl, hrest⟩ := hrel
      have HRS := Lib.hid hrest
      obtain ⟨x1, x2, x3, x4, x5, x6, x7, x8, x9, x10, x11⟩ := hrest
      have HX3 := Lib.hid x3
      have HX7 := Lib.hid x7
      have HX9 := Lib.hid x9
      clear x1 x3 x7 x8 x9 x11
      unfold maxLen at x5
      have hm0 : 0 < m := by omega
      go_wp2_with (first
        | (go_at_call 60; (with_reducible refine (ends_any ⟨g, i, none⟩ m cp ys _ x4 (by unfold maxLen; omega) HX9.out.rd HX3.out hm0 x6 HX7.out).mono ?_); rintro e w3 ⟨lo, hi, rfl, he, hb3⟩; have HE := Lib.hid he; have bd := in64_ends HX7.out he; obtain ⟨d1, d2, d3, d4⟩ := bd; clear he)
        | (go_at_call 59; (with_reducible refine (halfway_any lo hi _ d1 d2 d3 d4).mono ?_); rintro e w4 ⟨rfl, rfl⟩)
        | (go_at_call 58; (with_reducible refine (part_any g i m cp ys ((lo + hi) / 2) _ x4 (by unfold maxLen; omega) (HX9.out.up hb3) HX3.out hm0 x6 HX7.out (by omega) (by omega)).mono ?_); rintro e w5 ⟨c, us, B, rfl, hp5, hB5, hm5, hk5⟩; have hul : us.length = m := (by rw [hp5.perm.length_eq]; exact HX3.out); have hck := hp5.ck; obtain ⟨u0, hu0⟩ : ∃ u, us[0]? = some u := ⟨_, List.getElem?_eq_getElem (by omega)⟩; have hc0 : w5.cell? ⟨g, i, none⟩ = some (.int .i64 u0) := hm5.cell hu0; have HP5 := Lib.hid hp5; have HM5 := Lib.hid hm5; have HK5 := Lib.hid (((Kept.of_below (F := fun q => q = g) hb3)).trans hk5 (fun _ _ h => h)); have HB5 := Lib.hid hB5; have HU0 := Lib.hid hu0; clear hp5 hm5 hk5 hB5 hu0 hb3))
      · rename_i hcm
        have hcm2 : c = m := by
          have := of_decide_eq_true hcm
          omega
        subst hcm2
        have hs5 := rest_same HE.out HP5.out HX3.out x2 u0 HU0.out
        have hb5 := kept_below HK5.out HRS.out.2.2.2.2.2.2.2.2.2.2 x10
        have hq5 : kth ys J = kth zs K := HRS.out.2.2.2.2.2.2.2.1
        simp only [Exit.noGoto]
        go_ret2
        exact ⟨ret_ok (by rw [hs5, hq5]; exact E1.out.symm) E2.out.symm, hb5⟩
      · rename_i hcm hJc
        have hcm2 : c < m := by
          have := of_decide_eq_false hcm
          omega
        exact ⟨⟨i, c, cp, us.take c, J, rfl, rfl, rest_within HRS.out HP5.out hJc HM5.out HK5.out⟩, hcm2⟩
      · rename_i hcm hJc
        have hcm2 : c < m := by
          have := of_decide_eq_false hcm
          omega
        have hc0' := rest_some HE.out HP5.out HX3.out
        refine ⟨⟨i + c, m - c, cp - c, us.drop c, J - c, ?_, by rw [HB5.out hcm2], ?_⟩, ?_⟩
        · congr 1; omega
        · have h := rest_beyond HRS.out HP5.out (by omega) HM5.out HK5.out
          have e : ((J : Int) - c) = ((J - c : Nat) : Int) := by omega
          rw [e] at h
          exact h
        · show m - c < m
          omega
  · have e := kv_no (l := zs) (k := k) (by omega)
    have E1 := Lib.hid e.1
    have E2 := Lib.hid e.2
    clear e hr hz hl hA
    by_cases h1 : k < 0
    · clear h0
      go_enter Try.func57, Try.ntmps57
      go_wp2
      go_step3
      go_wp2
      simp only [Exit.noGoto]
      go_ret2
      exact ⟨ret_ok E1.out.symm E2.out.symm, Below.refl _ _⟩
    · have h2 : (n : Int) ≤ k := by omega
      clear h0
      go_enter Try.func57, Try.ntmps57
      go_wp2
      go_step3
      go_wp2
      simp only [Exit.noGoto]
      go_ret2
      exact ⟨ret_ok E1.out.symm E2.out.symm, Below.refl _ _⟩
set_option maxRecDepth 100000 in
theorem min_any (A : Option Addr) (n cap : Nat) (zs : List Int) (w : World) (hA : A = none → n = 0 ∧ cap = 0) (hn : n ≤ cap) (hcap : cap ≤ maxLen) (hr : Rd .i64 w A zs) (hl : zs.length = n) (hs : n ≤ 1000) (hz : In64 zs) :
    Calls Try.prog 53 #[.slice A n cap] w fun e w' => e = .returned (.tuple #[.int .i64 (kv zs (0)), .bool (kb zs (0))]) ∧ Below w.heap.size w w' := by
  have HR := Lib.hid hr
  have HZ := Lib.hid hz
  have HL := Lib.hid hl
  have HA := Lib.hid hA
  unfold maxLen at hcap
  clear hr hz hl hA
  go_enter Try.func53, Try.ntmps53
  go_wp2_with (go_at_call 57; (with_reducible refine (kth_any A n cap zs 0 _ HA.out hn (by unfold maxLen; omega) HR.out HL.out hs HZ.out (by omega) (by omega)).mono ?_); rintro e w2 ⟨rfl, hb2⟩)
  go_ret2
  exact ⟨rfl, hb2⟩
theorem med_at (zs : List Int) (n : Nat) (hl : zs.length = n) : kv zs (Int.tdiv ((n : Int) - 1) 2) = kv zs (((zs.length : Int) - 1) / 2) ∧ kb zs (Int.tdiv ((n : Int) - 1) 2) = kb zs (((zs.length : Int) - 1) / 2) := by
  subst hl
  by_cases h : zs.length = 0
  · have e1 := kv_no (l := zs) (k := Int.tdiv ((zs.length : Int) - 1) 2) (.inr (by rw [h]; decide))
    have e2 := kv_no (l := zs) (k := ((zs.length : Int) - 1) / 2) (.inl (by omega))
    exact ⟨e1.1.trans e2.1.symm, e1.2.trans e2.2.symm⟩
  · rw [Int.tdiv_eq_ediv_of_nonneg (by omega)]
    exact ⟨rfl, rfl⟩
set_option maxRecDepth 100000 in
theorem median_any (A : Option Addr) (n cap : Nat) (zs : List Int) (w : World) (hA : A = none → n = 0 ∧ cap = 0) (hn : n ≤ cap) (hcap : cap ≤ maxLen) (hr : Rd .i64 w A zs) (hl : zs.length = n) (hs : n ≤ 1000) (hz : In64 zs) :
    Calls Try.prog 54 #[.slice A n cap] w fun e w' => e = .returned (.tuple #[.int .i64 (kv zs (((zs.length : Int) - 1) / 2)), .bool (kb zs (((zs.length : Int) - 1) / 2))]) ∧ Below w.heap.size w w' := by
  have HR := Lib.hid hr
  have HZ := Lib.hid hz
  have HL := Lib.hid hl
  have HA := Lib.hid hA
  have HM := Lib.hid (med_at zs n hl)
  unfold maxLen at hcap
  have t0 : -1 ≤ Int.tdiv ((n : Int) - 1) 2 ∧ Int.tdiv ((n : Int) - 1) 2 ≤ 1000 := by
    by_cases h : n = 0
    · subst h; decide
    · rw [Int.tdiv_eq_ediv_of_nonneg (by omega)]; omega
  clear hr hz hl hA
  go_enter Try.func54, Try.ntmps54
  go_wp2_with (go_at_call 57; (with_reducible refine (kth_any A n cap zs (Int.tdiv ((n : Int) - 1) 2) _ HA.out hn (by unfold maxLen; omega) HR.out HL.out hs HZ.out (by omega) (by omega)).mono ?_); rintro e w2 ⟨rfl, hb2⟩)
  go_ret2
  exact ⟨ret_ok HM.out.1 HM.out.2, hb2⟩
end Go.Proofs.Ytonbidohhgenlaa.Ord
