/- Texts that statements lean on, put together: Row, Kept, Things, FldMath, FldRef, OrdMath, OrdRef, WidMath, WidDig, WidEq, WidROfInt, WidRInt, WidRPlus, SedMath, SedBits, SedRef, HshRef, GrdRef, GrdNew, GrdDoc, ShpRef, LinDef. -/
import Derived.Test.YtkflggojiiebeaaGreatQaa
import Derived.Test.YtkflggojiiebeaaGreatQab
import Derived.Test.YtkflggojiiebeaaGreatQac
import Derived.Test.YtkflggojiiebeaaGreatRows
import Derived.WalkKit
import Derived.ProofKit
import Derived.OpenShut
import Derived.DataShut
import Derived.Lib.SmallJoins
import Derived.Handy
import Derived.WalkSmall
import Derived.Deep.Draws
import Derived.WalkSpells
import Derived.Laws.AppendOwnNone
import Derived.Deep.AppendLies
import Derived.Lib.Hide
import Derived.Deep.MidRow
import Derived.Laws.BitsAllLaws
import Derived.WalkMore
import Derived.Deep.LoopGhost
import Derived.Deep.RegionHeld3
import Derived.Deep.QuietTactic
import Derived.BigQuiet
import Derived.Shelf.Spec.BitsCarry
import Derived.Deep.DeepCutAuto
import Derived.Laws.OwnMore
namespace Go.Proofs.YtkflggojiiebeaaGreat.Lw
open Go Go.RowKit
set_option linter.unusedVariables false
theorem rd_nil (k : IntKind) (w : World) (A : Option Addr) : Rd k w A [] := fun j v h => by simp at h
theorem in64_nil : In64 [] := fun v h => by simp at h
/-- .. at a step of a region that draws its order. -/
theorem app_step {P : Program} {w : World} {ops : Array Oper} {o : Oper} {a : Act} {K : Act → World → Prop} {Q : Exit → Act → World → Prop} {E : Prop} (k : IntKind) (hgd : o.guard = none) (s x : Operand) (t : TypeId)
    (ho : o.op = .call { callee := .builtin .append, args := #[s, x], argTypes := #[t, t] })
    (base : Nat) (e : TypeId) (i : TypeInfo) (bytes : Nat) (ht : P.underlying t = some (.slice e)) (hi : P.info? e = some i) (hz : i.zero = some (.int k 0)) (hsize : i.size = 1) (hby : i.bytes = bytes)
    (v : Value) (n : Nat) (xs : List Int) (hs : a.eval s = v) (hown : w.ownsRow base e 1 v n (xs.map (Value.int k))) (hv : v ≠ .slice none 0 0)
    (A : Option Addr) (m c : Nat) (zs : List Int) (hx : a.eval x = .slice A m c) (hA : A = none → m = 0 ∧ c = 0) (hl : zs.length = m) (hr : Rd k w A zs) (h63 : n + m ≤ maxLen) (hbytes : (n + m) * bytes ≤ 140737488355328) (hbase : base ≤ w.heap.size)
    (h : ∀ A' cap' w', w'.ownsRow base e 1 (.slice (some A') (n + m) cap') (n + m) ((xs ++ zs).map (Value.int k)) → w.grownBy w' v.ownBlock → Rd k w' (some A') (xs ++ zs) → n + m ≤ cap' → cap' ≤ maxLen → K (a.put o.dst (.slice (some A') (n + m) cap')) w') :
    if Region.wanted o (yielded ops a.tmps) = true then Oper.wp P o a w K Q else E := by
  rw [if_pos (by simp [Region.wanted, hgd])]
  exact app_wp k s x t ho base e i bytes ht hi hz hsize hby v n xs hs hown hv A m c zs hx hA hl hr h63 hbytes hbase h
theorem app_below2 {w X w2 : World} {g : Nat} (hX : Below w.heap.size w X) (h : X.grownBy w2 (some g)) (hg : w.heap.size ≤ g) : Below w.heap.size w w2 :=
  hX.grown h hX.size (fun k hk => by injection hk with hk; omega)
theorem own_empty2 (w : World) (o : Obj) (e : TypeId) (size base : Nat) (hb : base ≤ w.heap.size) : ((w.alloc o).alloc (.cells #[] e)).ownsRow base e size (.slice (some ⟨w.heap.size + 1, 0, none⟩) 0 0) 0 [] := by
  have h := own_empty (w.alloc o) e size base (by simp; omega)
  have e2 : (w.alloc o).heap.size = w.heap.size + 1 := by simp
  rw [e2] at h
  exact h
theorem app_below3 {w X w2 : World} {row : Option Nat} (hX : Below w.heap.size w X) (h : X.grownBy w2 row) (hrow : ∀ q, row = some q → w.heap.size ≤ q) : Below w.heap.size w w2 := hX.grown h hX.size hrow
/-- One number appended to a row of one's own; rows apart stay, and stay apart. -/
theorem app_one {P : Program} {w : World} {ops : Array Oper} {rest : List Oper} {o : Oper} {a : Act} {Q : Exit → Act → World → Prop} (k : IntKind) (hgd : o.guard = none) (s x : Operand) (t : TypeId)
    (ho : o.op = .call { callee := .builtin .append, args := #[s, x], argTypes := #[t, t] })
    (base : Nat) (e : TypeId) (i : TypeInfo) (bytes : Nat) (ht : P.underlying t = some (.slice e)) (hi : P.info? e = some i) (hz : i.zero = some (.int k 0)) (hsize : i.size = 1) (hby : i.bytes = bytes)
    (v : Value) (n : Nat) (xs : List Int) (hs : a.eval s = v) (hown : w.ownsRow base e 1 v n (xs.map (Value.int k)))
    (X : Int) (B : Nat) (hx : a.eval x = .slice (some ⟨B, 0, none⟩) 1 1) (hc : ∀ j u, ([Value.int k X] : List Value)[j]? = some u → w.cell? ((⟨B, 0, none⟩ : Addr).add j) = some u) (h63 : n + 1 ≤ maxLen) (hbytes : (n + 1) * bytes ≤ 140737488355328) (hbase : base ≤ w.heap.size)
    (h : ∀ v' w', w'.ownsRow base e 1 v' (n + 1) ((xs ++ [X]).map (Value.int k)) → w.grownBy w' v.ownBlock →
      (∀ b m ys, w.ownsRow base e 1 b m ys → Apart b v → w'.ownsRow base e 1 b m ys ∧ Apart b v') → wpList P ops Q rest (a.put o.dst v') w') :
    wpList P ops Q (o :: rest) a w := by
  refine wpList_append_lies w hgd s x t ho base e i (.int k 0) 1 bytes ht hi hz hsize hby rfl (by decide) v n _ hs hown ⟨B, 0, none⟩ 1 1 [.int k X] hx rfl hc (by intro u hu; simp at hu; subst hu; rfl) (by decide) h63 hbytes hbase w.heap.size rfl ?_
  intro g cap w' hown2 hgrow hat hlt
  refine h _ w' (by rw [List.map_append]; exact hown2) hgrow ?_
  intro b m ys hb hap
  refine ⟨hb.kept hgrow hap.ne, ?_⟩
  intro q hq hq2
  simp [Value.ownBlock] at hq2
  subst hq2
  rcases hat with hat | hat
  · exact hap _ hq hat
  · have := own_lt hb hq
    omega
end Go.Proofs.YtkflggojiiebeaaGreat.Lw

namespace Go.Proofs.YtkflggojiiebeaaGreat.Lw
open Go Go.RowKit
set_option linter.unusedVariables false
theorem own_mono {w : World} {base base' : Nat} {e : TypeId} {size : Nat} {v : Value} {n : Nat} {xs : List Value} (h : w.ownsRow base e size v n xs) (hb : base' ≤ base) : w.ownsRow base' e size v n xs := by
  refine ⟨h.1, ?_⟩
  rcases h.2 with h0 | ⟨g, cap, cur, h1, h2, h3⟩
  · exact .inl h0
  · exact .inr ⟨g, cap, cur, h1, Nat.le_trans hb h2, h3⟩
end Go.Proofs.YtkflggojiiebeaaGreat.Lw

namespace Go.Proofs.YtkflggojiiebeaaGreat.Lw
open Go Go.RowKit
set_option linter.unusedVariables false
theorem Have.turn_1 {w0 w w' : World} {t0 t1 : Thing} {ts : List Thing} (h : Have w0 w (t0 :: t1 :: ts)) (t' : Thing) (ht : t'.I w') (hk : Kept t1.F w w') (hF : ∀ k, t'.F k → t1.F k ∨ w.heap.size ≤ k) : Have w0 w' (t0 :: t' :: ts) := Have.turnX (fs := [t0]) t' ht hk hF h
theorem Have.f8 {w0 w : World} {t0 t1 t2 t3 t4 t5 t6 t7 t8 : Thing} {ts : List Thing} (h : Have w0 w (t0 :: t1 :: t2 :: t3 :: t4 :: t5 :: t6 :: t7 :: t8 :: ts)) : ∀ k, t8.F k → w0.heap.size ≤ k := (h.one t8 (by simp)).2
end Go.Proofs.YtkflggojiiebeaaGreat.Lw

namespace Go.Proofs.YtkflggojiiebeaaGreat.Fld
open Go Go.RowKit

theorem and1 (x : Int) (h0 : 0 ≤ x) (h1 : x ≤ 18446744073709551615) : bits .and .u64 x 1 = x % 2 := by
  rw [u64_and x 1 h0 (by omega) (by omega) (by omega)]
  have h := Nat.and_two_pow_sub_one_eq_mod x.toNat 1
  have e : ((1 : Int).toNat) = 2 ^ 1 - 1 := by decide
  rw [e, h]
  have e2 : (2 : Nat) ^ 1 = 2 := by decide
  rw [e2]; omega
def mr (o x y : Int) : Int := (o + x * y) % 2305843009213693951
theorem mr_zero (o x : Int) : mr o x 0 = fold o := by unfold mr fold; simp
theorem mr_start (a b : Int) : mr 0 (a % 2305843009213693951) (b % 2305843009213693951) = mul a b := by unfold mr mul; rw [Int.zero_add, ← Int.mul_emod]
theorem mr_dbl (o x y : Int) : (o + (x + x) % 2305843009213693951 * y) % 2305843009213693951 = (o + x * (2 * y)) % 2305843009213693951 := by
  rw [Int.add_emod, Int.mul_emod, Int.emod_emod_of_dvd _ (Int.dvd_refl _), ← Int.mul_emod, ← Int.add_emod]
  congr 2
  rw [Int.add_mul, Int.mul_left_comm]; omega
theorem mr_even (o x y : Int) (h : y % 2 = 0) : mr o ((x + x) % 2305843009213693951) (y / 2) = mr o x y := by
  unfold mr; rw [mr_dbl, show 2 * (y / 2) = y from by omega]
theorem mr_odd (o x y : Int) (h : y % 2 = 1) : mr ((o + x) % 2305843009213693951) ((x + x) % 2305843009213693951) (y / 2) = mr o x y := by
  unfold mr; rw [mr_dbl, Int.emod_add_emod, Int.add_assoc]
  have e : x + x * (2 * (y / 2)) = x * y := by
    have e2 : y = 2 * (y / 2) + 1 := by omega
    have e3 : x * y = x * (2 * (y / 2) + 1) := by rw [← e2]
    rw [e3, Int.mul_add, Int.mul_one, Int.add_comm]
  rw [e]

end Go.Proofs.YtkflggojiiebeaaGreat.Fld

namespace Go.Proofs.YtkflggojiiebeaaGreat.Fld
open Go.RowKit

theorem radd_any (a b : Int) (w : World) (h0 : 0 ≤ a) (h1 : a ≤ 18446744073709551615) (g0 : 0 ≤ b) (g1 : b ≤ 18446744073709551615) :
    Calls Tryz.prog 170 #[.int .u64 a, .int .u64 b] w fun e w' => e = .returned (.int .u64 (add a b)) ∧ w = w' := by
  go_enter Tryz.func170, Tryz.ntmps170
  go_wp2
  go_ret
  exact ⟨ret_int (by unfold add; omega), rfl⟩

theorem rmul_any (a b : Int) (w : World) (h0 : 0 ≤ a) (h1 : a ≤ 18446744073709551615) (g0 : 0 ≤ b) (g1 : b ≤ 18446744073709551615) :
    Calls Tryz.prog 171 #[.int .u64 a, .int .u64 b] w fun e w' => e = .returned (.int .u64 (mul a b)) ∧ w = w' := by
  have fa := mod_bd a
  have fb := mod_bd b
  go_enter Tryz.func171, Tryz.ntmps171
  go_wp2
  go_loop [5, 6, 7] (fun x y o => ∃ xx yy oo : Int, 0 ≤ xx ∧ xx ≤ 2305843009213693950 ∧ 0 ≤ yy ∧ yy ≤ 2305843009213693950 ∧ 0 ≤ oo ∧ oo ≤ 2305843009213693950 ∧ x = .int .u64 xx ∧ y = .int .u64 yy ∧ o = .int .u64 oo ∧ mr oo xx yy = mul a b) (fun _ y _ => (intOf y).toNat)
  case atStart => exact ⟨_, _, _, fa.1, fa.2, fb.1, fb.2, by omega, by omega, rfl, rfl, rfl, mr_start a b⟩
  case round =>
    obtain ⟨x, y, o, x0, x1, y0, y1, o0, o1, rfl, rfl, rfl, hp⟩ := hrel
    have H := Lib.hid hp
    clear hp
    by_cases hz : 0 < y
    · have m1 := mod_bd (o + x)
      have m2 := mod_bd (x + x)
      by_cases ho : y % 2 = 1
      · have hd : ((y % 2 : Int) == 1) = true := by simpa using ho
        have HO := Lib.hid ho
        clear ho
        go_wp2
        go_round
        case rel => exact ⟨_, _, _, m2.1, m2.2, by omega, by omega, m1.1, m1.2, rfl, rfl, rfl, by rw [mr_odd o x y HO.out]; exact H.out⟩
        case measure => simp [intOf]; omega
      · have hd : ((y % 2 : Int) == 1) = false := by simpa using ho
        have HO : Hid (y % 2 = 0) := Lib.hid (by omega)
        clear ho
        go_wp2
        go_round
        case rel => exact ⟨_, _, _, m2.1, m2.2, by omega, by omega, o0, o1, rfl, rfl, rfl, by rw [mr_even o x y HO.out]; exact H.out⟩
        case measure => simp [intOf]; omega
    · obtain rfl : y = 0 := by omega
      go_wp2
      go_ret
      exact ⟨ret_int (by have h := H.out; rw [mr_zero, fold_of o o0 o1] at h; exact h), rfl⟩
end Go.Proofs.YtkflggojiiebeaaGreat.Fld

namespace Go.Proofs.YtkflggojiiebeaaGreat.Ord
set_option linter.unusedVariables false
theorem srt_next (l : List Int) (k : Nat) (h : k < l.length) : srt (l.take (k + 1)) = put (srt (l.take k)) l[k] := by
  unfold srt
  rw [List.take_succ_eq_append_getElem h, List.foldl_append]
  rfl
def same (l : List Int) (x : Int) : Nat := l.countP (fun y => y == x)
end Go.Proofs.YtkflggojiiebeaaGreat.Ord

namespace Go.Proofs.YtkflggojiiebeaaGreat.Ord
open Go Go.RowKit Lw
set_option linter.unusedVariables false
set_option linter.unusedSimpArgs false
theorem ri64_info : (Tryz.prog.info? 2).map (fun i => (i.zero, i.size, i.bytes)) = some (some (.int .i64 0), 1, 8) := by kernel_rfl
theorem ri64s_u : Tryz.prog.underlying 54 = some (.slice 2) := by kernel_rfl
theorem wrap_pred (t : Nat) (h : (t : Int) ≤ 9223372036854775806) : IntKind.i64.wrap ((t : Int) + 1 - 1) = t := by rw [IntKind.wrap_i64]; omega
theorem ret_kb {a b : Int} {p q : Bool} (h : a = b) (g : p = q) : Ending.returned (.tuple #[.int .i64 a, .bool p]) = .returned (.tuple #[.int .i64 b, .bool q]) := by rw [h, g]
set_option maxRecDepth 100000 in
theorem rmin_any (A : Option Addr) (n cap : Nat) (zs : List Int) (w : World) (hA : A = none → n = 0 ∧ cap = 0) (hn : n ≤ cap) (hcap : cap ≤ maxLen) (hr : Rd .i64 w A zs) (hl : zs.length = n) (hs : n ≤ 1000) (hz : In64 zs) :
    Calls Tryz.prog 165 #[.slice A n cap] w fun e w' => e = .returned (.tuple #[.int .i64 (kv zs (0)), .bool (kb zs (0))]) ∧ Below w.heap.size w w' := by
  have HR := Lib.hid hr
  have HZ := Lib.hid hz
  have HL := Lib.hid hl
  unfold maxLen at hcap
  clear hr hz hA
  by_cases h0 : n = 0
  · have e := kv_no (l := zs) (k := 0) (by omega)
    subst h0
    clear hl
    go_enter Tryz.func165, Tryz.ntmps165
    go_wp2
    go_ret2
    exact ⟨ret_kb e.1.symm e.2.symm, Below.refl _ _⟩
  · have hnz : ((n : Int) == 0) = false := by simp; omega
    have h1 : 0 < zs.length := by omega
    obtain ⟨ad, rfl⟩ := HR.out.some_of h1
    have c0 := HR.out.at (j := 0) (v := zs[0]) (List.getElem?_eq_getElem h1)
    have ca0 : ad.add 0 = ad := by unfold Addr.add; simp
    obtain ⟨f, hf⟩ : ∃ f, f = zs[0] := ⟨_, rfl⟩
    rw [← hf] at c0
    have hfm : f ∈ zs := by rw [hf]; exact List.getElem_mem h1
    have fb := HZ.out f hfm
    have HF := Lib.hid hfm
    have h0n : (0 : Int) < n := by omega
    rw [ca0] at c0
    clear hf hfm hl
    go_enter Tryz.func165, Tryz.ntmps165
    go_wp2
    go_loop [4, 5] (fun b i => ∃ (k : Nat) (x : Int), k ≤ n ∧ i = .int .i64 k ∧ b = .int .i64 x ∧ x ∈ zs ∧ ∀ y ∈ zs.take k, x ≤ y) (fun _ i => n - (intOf i).toNat)
    case atStart => exact ⟨0, f, Nat.zero_le _, rfl, rfl, HF.out, fun y hy => by simp at hy⟩
    case round =>
      obtain ⟨k, x, hk, rfl, rfl, hx, hall⟩ := hrel
      have xb := HZ.out x hx
      have HX := Lib.hid hx
      have HA := Lib.hid hall
      clear hx hall
      by_cases hlt : k < n
      · have hkl : k < zs.length := by have := HL.out; omega
        obtain ⟨v, hv⟩ : ∃ v, zs[k]? = some v := ⟨_, List.getElem?_eq_getElem hkl⟩
        have hc := HR.out.at hv
        have hvm := List.mem_of_getElem? hv
        have vb := HZ.out v hvm
        have HV := Lib.hid hvm
        have HN := Lib.hid (take_next zs k v hv)
        clear hv hvm
        by_cases h2 : v < x
        · go_wp2
          go_round
          case rel => exact ⟨k + 1, v, by omega, by go_num, rfl, HV.out, fun y hy => by rw [HN.out] at hy; rcases List.mem_append.1 hy with h3 | h3; (have := HA.out y h3; omega); (simp at h3; omega)⟩
          case measure => simp [intOf]; omega
        · go_wp2
          all_goals first | (exfalso; omega) | skip
          go_round
          case rel => exact ⟨k + 1, x, by omega, by go_num, by first | rfl | (congr 1; omega), HX.out, fun y hy => by rw [HN.out] at hy; rcases List.mem_append.1 hy with h3 | h3; (exact HA.out y h3); (simp at h3; omega)⟩
          case measure => simp [intOf]; omega
      · have e : k = n := by omega
        subst e
        have e1 := kv_yes (l := zs) (k := 0) (by omega) (by have := HL.out; omega)
        have e2 := least_eq zs x HX.out (fun y hy => HA.out y (by rw [List.take_of_length_le (by have := HL.out; omega)]; exact hy))
        have E := Lib.hid (e1.1.trans e2.symm)
        have E2 := Lib.hid e1.2
        clear e1 e2
        go_wp2
        go_ret2
        exact ⟨ret_kb E.out.symm E2.out.symm, Below.refl _ _⟩
set_option maxRecDepth 100000 in
set_option maxHeartbeats 4000000 in
theorem rsorted_any (A : Option Addr) (n cap : Nat) (zs : List Int) (w : World) (hA : A = none → n = 0 ∧ cap = 0) (hn : n ≤ cap) (hcap : cap ≤ maxLen) (hr : Rd .i64 w A zs) (hl : zs.length = n) (hs : n ≤ 1000) (hz : In64 zs) :
    Calls Tryz.prog 172 #[.slice A n cap] w fun e w' => ∃ (A2 : Addr) (cap2 : Nat), e = .returned (.slice (some A2) n cap2) ∧ Rd .i64 w' (some A2) (srt zs) ∧ n ≤ cap2 ∧ cap2 ≤ maxLen ∧ Below w.heap.size w w' := by
  obtain ⟨i0, hi, hz0, hz1, hz2⟩ := info_parts ri64_info
  have HR := Lib.hid hr
  have HZ := Lib.hid hz
  have HL := Lib.hid hl
  unfold maxLen at hcap
  clear hr hz hA hl
  go_enter Tryz.func172, Tryz.ntmps172
  go_wp2
  go_loopw [3, 4] (fun v i wr => ∃ (k : Nat) (ad : Addr) (cp : Nat), k ≤ n ∧ i = .int .i64 k ∧ v = .slice (some ad) k cp ∧ Rd .i64 wr (some ad) (srt (zs.take k)) ∧ k ≤ cp ∧ cp ≤ 9223372036854775807 ∧ Below w.heap.size w wr) (fun _ i _ => n - (intOf i).toNat)
  case atStart => exact ⟨0, ⟨w.heap.size, 0, none⟩, 0, Nat.zero_le _, rfl, rfl, rd_nil _ _ _, by omega, by omega, Lw.below_alloc (Below.refl _ _) _⟩
  case round =>
    obtain ⟨k, ad, cp, hk, rfl, rfl, hro, hkc, hcm, hbel⟩ := hrel
    by_cases hlt : k < n
    · have hkl : k < zs.length := by have := HL.out; omega
      obtain ⟨x, hv⟩ : ∃ x, zs[k]? = some x := ⟨_, List.getElem?_eq_getElem hkl⟩
      obtain ⟨lad, rfl, hcw⟩ := HR.out k x hv
      have hcx := cell_up hcw hbel
      have hxb := HZ.out.at hv
      have hnext : srt (zs.take (k + 1)) = put (srt (zs.take k)) x := by rw [srt_next zs k hkl]; congr 1; have := (List.getElem?_eq_some_iff.1 hv).2; exact this
      have hol : (srt (zs.take k)).length = k := by rw [srt_len, List.length_take]; omega
      have hoz : In64 (srt (zs.take k)) := fun y hy => HZ.out y (List.mem_of_mem_take ((srt_perm _).mem_iff.1 hy))
      obtain ⟨out, hout⟩ : ∃ out, srt (zs.take k) = out := ⟨_, rfl⟩
      rw [hout] at hro hnext hol hoz
      have HNX := Lib.hid hnext
      have HO := Lib.hid hol
      have HOZ := Lib.hid hoz
      have HRO := Lib.hid hro
      have HB := Lib.hid hbel
      have hpl := posN_le out x k
      obtain ⟨p, hp⟩ : ∃ p, posN out x k = p := ⟨_, rfl⟩
      rw [hp] at hpl
      have HP := Lib.hid hp
      clear hv hcw hnext hol hoz hro hbel hp hout
      go_wp2
      go_loopw [5] (fun a wi => ∃ j d : Nat, j ≤ k ∧ a = .int .i64 j ∧ posN out x j = p ∧ wi = wr.drewN d) (fun a _ => (intOf a).toNat)
      case atStart => exact ⟨k, 0, Nat.le_refl _, rfl, HP.out, rfl⟩
      case round =>
        obtain ⟨j, d, hj, rfl, hpj, rfl⟩ := hrel
        by_cases hjp : j = p
        · have hjp2 := hjp.symm
          subst hjp2
          clear hpj hjp
          by_cases hp0 : p = 0
          · have hp1 : decide (0 < p) = false := by simp; omega
            clear hp0
            go_wp2
            go_quiet (fail)
            by_cases hcp : cp = p
            · have e1 : p = k := by omega
              subst e1
              subst hcp
              go_wp2_with (at_builtin; refine app_any .i64 rfl _ _ 54 rfl wr.heap.size 2 i0 8 ri64s_u hi hz0 hz1 hz2 (.slice (some ⟨wr.heap.size, 0, none⟩) 0 0) 0 [] rfl (own_empty wr _ _ _ (Nat.le_refl _)) (fun h => by cases h) (some ad) 0 0 [] rfl (by simp) rfl (rd_nil _ _ _) (by unfold maxLen; omega) (by omega) (by simp) ?_; intro A6 cap6 w6 own6 grow6 rd6 c6 d6; have hb6 : Below wr.heap.size wr w6 := app_below2 (by (repeat' (first | (with_reducible first | exact Below.refl _ _ | assumption | refine below_over ?_ _ _ | refine Lw.below_alloc ?_ _ | refine Below.drew ?_ | refine below_drewN ?_ _ | refine Below.setCell ?_ ?_ _) | go_size))) grow6 (by simp); (try simp only [Nat.zero_add, List.nil_append] at own6 rd6 c6); (try simp only [Nat.zero_add]))
              have HRO6 := Lib.hid (HRO.out.up hb6)
              have HR6 := Lib.hid rd6
              have hx6 := cell_up hcx hb6
              have HB6 := Lib.hid (below_call HB.out hb6 (Nat.le_refl _))
              unfold maxLen at d6
              clear own6 grow6 rd6 hcx hb6
              go_region_held3 (fun w' => Below w6.heap.size w6 w' ∧ w'.cell? (lad.add cp) = some (.int .i64 x)) (first | (refine ⟨?_, cell_up hx6 ?_⟩ <;> (repeat' (first | (with_reducible first | exact Below.refl _ _ | assumption | refine below_over ?_ _ _ | refine Lw.below_alloc ?_ _ | refine Below.drew ?_ | refine below_drewN ?_ _ | refine Below.setCell ?_ ?_ _) | go_size)))) (first
                | (refine app_step .i64 rfl _ _ 54 rfl w6.heap.size 2 i0 8 ri64s_u hi hz0 hz1 hz2 _ 0 [] rfl (by first | exact own_empty w6 _ _ _ (Nat.le_refl _) | exact (own_empty w6 _ _ _ (Nat.le_refl _)).alloc _ | exact own_empty2 w6 _ _ _ _ (Nat.le_refl _)) (fun h => by cases h) (some ad) cp cp (out.take cp) rfl (by simp) (by have := HO.out; simp; omega) (Rd.up (Rd.take HRO6.out cp) (by (repeat' (first | (with_reducible first | exact Below.refl _ _ | assumption | refine below_over ?_ _ _ | refine Lw.below_alloc ?_ _ | refine Below.drew ?_ | refine below_drewN ?_ _ | refine Below.setCell ?_ ?_ _) | go_size)))) (by unfold maxLen; omega) (by omega) (by simp <;> omega) ?_; intro A7 cap7 w7 own7 grow7 rd7 c7 d7; have hb7 : Below w6.heap.size w6 w7 := app_below2 (by (repeat' (first | (with_reducible first | exact Below.refl _ _ | assumption | refine below_over ?_ _ _ | refine Lw.below_alloc ?_ _ | refine Below.drew ?_ | refine below_drewN ?_ _ | refine Below.setCell ?_ ?_ _) | go_size))) grow7 (by simp); (try simp only [Nat.zero_add, List.nil_append] at own7 rd7 c7); (try simp only [Nat.zero_add]))
                | (refine app_step .i64 rfl _ _ 54 rfl w6.heap.size 2 i0 8 ri64s_u hi hz0 hz1 hz2 (.slice (some A7) cp cap7) cp (out.take cp) rfl (by first | exact own7.alloc _ | exact own7) (fun h => by cases h) _ 1 1 [x] rfl (by simp) rfl (rd_one (by first | (simp [go_sem]; done) | exact grow7.cell (by simp [go_sem]) (by first | exact fun hne => absurd (Option.some.inj (show some (w6.heap.size + 1) = some w6.heap.size from hne)) (by omega) | exact fun hne => absurd (Option.some.inj (show some w6.heap.size = some (w6.heap.size + 1) from hne)) (by omega)))) (by unfold maxLen; omega) (by omega) (by have := hb7.size; simp <;> omega) ?_; intro A8 cap8 w8 own8 grow8 rd8 c8 d8; have hb8 : Below w6.heap.size w6 w8 := app_below3 (by (repeat' (first | (with_reducible first | exact Below.refl _ _ | assumption | refine below_over ?_ _ _ | refine Lw.below_alloc ?_ _ | refine Below.drew ?_ | refine below_drewN ?_ _ | refine Below.setCell ?_ ?_ _) | go_size))) grow8 (fun q hq => own_ge own7 q hq); (try simp only [Nat.zero_add, List.nil_append] at own8 rd8 c8); (try simp only [Nat.zero_add]))
                | (refine app_step .i64 rfl _ _ 54 rfl w6.heap.size 2 i0 8 ri64s_u hi hz0 hz1 hz2 (.slice (some A8) (cp + 1) cap8) (cp + 1) (out.take cp ++ [x]) rfl own8 (fun h => by cases h) (some A6) 0 cap6 [] rfl (by simp) rfl (Rd.up HR6.out hb8) (by unfold maxLen; omega) (by omega) hb8.size ?_; intro A9 cap9 w9 own9 grow9 rd9 c9 d9; have hb9 : Below w6.heap.size w6 w9 := app_below3 (by (repeat' (first | (with_reducible first | exact Below.refl _ _ | assumption | refine below_over ?_ _ _ | refine Lw.below_alloc ?_ _ | refine Below.drew ?_ | refine below_drewN ?_ _ | refine Below.setCell ?_ ?_ _) | go_size))) grow9 (fun q hq => own_ge own8 q hq); (try simp only [Nat.zero_add, List.nil_append] at own9 rd9 c9); (try simp only [Nat.zero_add])))
              all_goals go_wp2
              all_goals go_roundw
              all_goals first
                | exact ⟨cp + 1, A9, cap9, by omega, by go_num, by first | rfl | (congr 1; omega), by rw [HNX.out]; unfold put; rw [HO.out, HP.out, List.drop_of_length_le (by have := HO.out; omega)]; have h9 := rd9; simpa using h9, by omega, by unfold maxLen at d9; omega, below_call HB6.out hb9 (Nat.le_refl _)⟩
                | (simp [intOf]; omega)
            · have hs1 : ¬ ((cp : Nat) : Int) < (p : Int) := by omega
              have hs2 : ¬ ((k : Nat) : Int) < (p : Int) := by omega
              have hs4 : ¬ cp < p := by omega
              go_wp2_with (at_builtin; refine app_any .i64 rfl _ _ 54 rfl wr.heap.size 2 i0 8 ri64s_u hi hz0 hz1 hz2 (.slice (some ⟨wr.heap.size, 0, none⟩) 0 0) 0 [] rfl (own_empty wr _ _ _ (Nat.le_refl _)) (fun h => by cases h) (some (ad.add p)) (k - p) (cp - p) (out.drop p) rfl (by simp) (by have := HO.out; simp; omega) (Rd.up (Rd.drop HRO.out p) (by (repeat' (first | (with_reducible first | exact Below.refl _ _ | assumption | refine below_over ?_ _ _ | refine Lw.below_alloc ?_ _ | refine Below.drew ?_ | refine below_drewN ?_ _ | refine Below.setCell ?_ ?_ _) | go_size)))) (by unfold maxLen; omega) (by omega) (by simp) ?_; intro A6 cap6 w6 own6 grow6 rd6 c6 d6; have hb6 : Below wr.heap.size wr w6 := app_below2 (by (repeat' (first | (with_reducible first | exact Below.refl _ _ | assumption | refine below_over ?_ _ _ | refine Lw.below_alloc ?_ _ | refine Below.drew ?_ | refine below_drewN ?_ _ | refine Below.setCell ?_ ?_ _) | go_size))) grow6 (by simp); (try simp only [Nat.zero_add, List.nil_append] at own6 rd6 c6); (try simp only [Nat.zero_add]))
              have HRO6 := Lib.hid (HRO.out.up hb6)
              have HR6 := Lib.hid rd6
              have hx6 := cell_up hcx hb6
              have HB6 := Lib.hid (below_call HB.out hb6 (Nat.le_refl _))
              unfold maxLen at d6
              clear own6 grow6 rd6 hcx hb6
              go_region_held3 (fun w' => Below w6.heap.size w6 w' ∧ w'.cell? (lad.add k) = some (.int .i64 x)) (first | (refine ⟨?_, cell_up hx6 ?_⟩ <;> (repeat' (first | (with_reducible first | exact Below.refl _ _ | assumption | refine below_over ?_ _ _ | refine Lw.below_alloc ?_ _ | refine Below.drew ?_ | refine below_drewN ?_ _ | refine Below.setCell ?_ ?_ _) | go_size)))) (first
                | (refine app_step .i64 rfl _ _ 54 rfl w6.heap.size 2 i0 8 ri64s_u hi hz0 hz1 hz2 _ 0 [] rfl (by first | exact own_empty w6 _ _ _ (Nat.le_refl _) | exact (own_empty w6 _ _ _ (Nat.le_refl _)).alloc _ | exact own_empty2 w6 _ _ _ _ (Nat.le_refl _)) (fun h => by cases h) (some ad) p cp (out.take p) rfl (by simp) (by have := HO.out; simp; omega) (Rd.up (Rd.take HRO6.out p) (by (repeat' (first | (with_reducible first | exact Below.refl _ _ | assumption | refine below_over ?_ _ _ | refine Lw.below_alloc ?_ _ | refine Below.drew ?_ | refine below_drewN ?_ _ | refine Below.setCell ?_ ?_ _) | go_size)))) (by unfold maxLen; omega) (by omega) (by simp <;> omega) ?_; intro A7 cap7 w7 own7 grow7 rd7 c7 d7; have hb7 : Below w6.heap.size w6 w7 := app_below2 (by (repeat' (first | (with_reducible first | exact Below.refl _ _ | assumption | refine below_over ?_ _ _ | refine Lw.below_alloc ?_ _ | refine Below.drew ?_ | refine below_drewN ?_ _ | refine Below.setCell ?_ ?_ _) | go_size))) grow7 (by simp); (try simp only [Nat.zero_add, List.nil_append] at own7 rd7 c7); (try simp only [Nat.zero_add]))
                | (refine app_step .i64 rfl _ _ 54 rfl w6.heap.size 2 i0 8 ri64s_u hi hz0 hz1 hz2 (.slice (some A7) p cap7) p (out.take p) rfl (by first | exact own7.alloc _ | exact own7) (fun h => by cases h) _ 1 1 [x] rfl (by simp) rfl (rd_one (by first | (simp [go_sem]; done) | exact grow7.cell (by simp [go_sem]) (by first | exact fun hne => absurd (Option.some.inj (show some (w6.heap.size + 1) = some w6.heap.size from hne)) (by omega) | exact fun hne => absurd (Option.some.inj (show some w6.heap.size = some (w6.heap.size + 1) from hne)) (by omega)))) (by unfold maxLen; omega) (by omega) (by have := hb7.size; simp <;> omega) ?_; intro A8 cap8 w8 own8 grow8 rd8 c8 d8; have hb8 : Below w6.heap.size w6 w8 := app_below3 (by (repeat' (first | (with_reducible first | exact Below.refl _ _ | assumption | refine below_over ?_ _ _ | refine Lw.below_alloc ?_ _ | refine Below.drew ?_ | refine below_drewN ?_ _ | refine Below.setCell ?_ ?_ _) | go_size))) grow8 (fun q hq => own_ge own7 q hq); (try simp only [Nat.zero_add, List.nil_append] at own8 rd8 c8); (try simp only [Nat.zero_add]))
                | (refine app_step .i64 rfl _ _ 54 rfl w6.heap.size 2 i0 8 ri64s_u hi hz0 hz1 hz2 (.slice (some A8) (p + 1) cap8) (p + 1) (out.take p ++ [x]) rfl own8 (fun h => by cases h) (some A6) (k - p) cap6 (out.drop p) rfl (by simp) (by have := HO.out; simp; omega) (Rd.up HR6.out hb8) (by unfold maxLen; omega) (by omega) hb8.size ?_; intro A9 cap9 w9 own9 grow9 rd9 c9 d9; have hb9 : Below w6.heap.size w6 w9 := app_below3 (by (repeat' (first | (with_reducible first | exact Below.refl _ _ | assumption | refine below_over ?_ _ _ | refine Lw.below_alloc ?_ _ | refine Below.drew ?_ | refine below_drewN ?_ _ | refine Below.setCell ?_ ?_ _) | go_size))) grow9 (fun q hq => own_ge own8 q hq); (try simp only [Nat.zero_add, List.nil_append] at own9 rd9 c9); (try simp only [Nat.zero_add])))
              all_goals go_wp2
              all_goals go_roundw
              all_goals first
                | exact ⟨k + 1, A9, cap9, by omega, by go_num, by first | rfl | (congr 1; omega), by rw [HNX.out]; unfold put; rw [HO.out, HP.out]; have h9 := rd9; simpa using h9, by omega, by unfold maxLen at d9; omega, below_call HB6.out hb9 (Nat.le_refl _)⟩
                | (simp [intOf]; omega)
          · obtain ⟨t, ht⟩ : ∃ t : Nat, p = t + 1 := ⟨p - 1, by omega⟩
            have htl : t < out.length := by have := HO.out; omega
            obtain ⟨y, hy⟩ : ∃ y, out[t]? = some y := ⟨_, List.getElem?_eq_getElem htl⟩
            have hcy := HRO.out.at hy
            have hyb := HOZ.out.at hy
            have hxy : ¬ x < y := by
              have h1 := posN_lo out x k (by rw [HP.out]; omega)
              rw [HP.out, ht, show t + 1 - 1 = t from rfl, hy] at h1
              have h2 : y ≤ x := h1
              omega
            have hw : IntKind.i64.wrap ((p : Int) - 1) = (t : Int) := by rw [IntKind.wrap_i64]; omega
            have hp1 : 0 < p := by omega
            have htk : (t : Int) < (k : Int) := by omega
            clear hp0 hy ht htl
            go_wp2
            go_quiet (fail)
            clear hcy hw htk hyb
            by_cases hcp : cp = p
            · have e1 : p = k := by omega
              subst e1
              subst hcp
              go_wp2_with (at_builtin; refine app_any .i64 rfl _ _ 54 rfl wr.heap.size 2 i0 8 ri64s_u hi hz0 hz1 hz2 (.slice (some ⟨wr.heap.size, 0, none⟩) 0 0) 0 [] rfl (own_empty wr _ _ _ (Nat.le_refl _)) (fun h => by cases h) (some ad) 0 0 [] rfl (by simp) rfl (rd_nil _ _ _) (by unfold maxLen; omega) (by omega) (by simp) ?_; intro A6 cap6 w6 own6 grow6 rd6 c6 d6; have hb6 : Below wr.heap.size wr w6 := app_below2 (by (repeat' (first | (with_reducible first | exact Below.refl _ _ | assumption | refine below_over ?_ _ _ | refine Lw.below_alloc ?_ _ | refine Below.drew ?_ | refine below_drewN ?_ _ | refine Below.setCell ?_ ?_ _) | go_size))) grow6 (by simp); (try simp only [Nat.zero_add, List.nil_append] at own6 rd6 c6); (try simp only [Nat.zero_add]))
              have HRO6 := Lib.hid (HRO.out.up hb6)
              have HR6 := Lib.hid rd6
              have hx6 := cell_up hcx hb6
              have HB6 := Lib.hid (below_call HB.out hb6 (Nat.le_refl _))
              unfold maxLen at d6
              clear own6 grow6 rd6 hcx hb6
              go_region_held3 (fun w' => Below w6.heap.size w6 w' ∧ w'.cell? (lad.add cp) = some (.int .i64 x)) (first | (refine ⟨?_, cell_up hx6 ?_⟩ <;> (repeat' (first | (with_reducible first | exact Below.refl _ _ | assumption | refine below_over ?_ _ _ | refine Lw.below_alloc ?_ _ | refine Below.drew ?_ | refine below_drewN ?_ _ | refine Below.setCell ?_ ?_ _) | go_size)))) (first
                | (refine app_step .i64 rfl _ _ 54 rfl w6.heap.size 2 i0 8 ri64s_u hi hz0 hz1 hz2 _ 0 [] rfl (by first | exact own_empty w6 _ _ _ (Nat.le_refl _) | exact (own_empty w6 _ _ _ (Nat.le_refl _)).alloc _ | exact own_empty2 w6 _ _ _ _ (Nat.le_refl _)) (fun h => by cases h) (some ad) cp cp (out.take cp) rfl (by simp) (by have := HO.out; simp; omega) (Rd.up (Rd.take HRO6.out cp) (by (repeat' (first | (with_reducible first | exact Below.refl _ _ | assumption | refine below_over ?_ _ _ | refine Lw.below_alloc ?_ _ | refine Below.drew ?_ | refine below_drewN ?_ _ | refine Below.setCell ?_ ?_ _) | go_size)))) (by unfold maxLen; omega) (by omega) (by simp <;> omega) ?_; intro A7 cap7 w7 own7 grow7 rd7 c7 d7; have hb7 : Below w6.heap.size w6 w7 := app_below2 (by (repeat' (first | (with_reducible first | exact Below.refl _ _ | assumption | refine below_over ?_ _ _ | refine Lw.below_alloc ?_ _ | refine Below.drew ?_ | refine below_drewN ?_ _ | refine Below.setCell ?_ ?_ _) | go_size))) grow7 (by simp); (try simp only [Nat.zero_add, List.nil_append] at own7 rd7 c7); (try simp only [Nat.zero_add]))
                | (refine app_step .i64 rfl _ _ 54 rfl w6.heap.size 2 i0 8 ri64s_u hi hz0 hz1 hz2 (.slice (some A7) cp cap7) cp (out.take cp) rfl (by first | exact own7.alloc _ | exact own7) (fun h => by cases h) _ 1 1 [x] rfl (by simp) rfl (rd_one (by first | (simp [go_sem]; done) | exact grow7.cell (by simp [go_sem]) (by first | exact fun hne => absurd (Option.some.inj (show some (w6.heap.size + 1) = some w6.heap.size from hne)) (by omega) | exact fun hne => absurd (Option.some.inj (show some w6.heap.size = some (w6.heap.size + 1) from hne)) (by omega)))) (by unfold maxLen; omega) (by omega) (by have := hb7.size; simp <;> omega) ?_; intro A8 cap8 w8 own8 grow8 rd8 c8 d8; have hb8 : Below w6.heap.size w6 w8 := app_below3 (by (repeat' (first | (with_reducible first | exact Below.refl _ _ | assumption | refine below_over ?_ _ _ | refine Lw.below_alloc ?_ _ | refine Below.drew ?_ | refine below_drewN ?_ _ | refine Below.setCell ?_ ?_ _) | go_size))) grow8 (fun q hq => own_ge own7 q hq); (try simp only [Nat.zero_add, List.nil_append] at own8 rd8 c8); (try simp only [Nat.zero_add]))
                | (refine app_step .i64 rfl _ _ 54 rfl w6.heap.size 2 i0 8 ri64s_u hi hz0 hz1 hz2 (.slice (some A8) (cp + 1) cap8) (cp + 1) (out.take cp ++ [x]) rfl own8 (fun h => by cases h) (some A6) 0 cap6 [] rfl (by simp) rfl (Rd.up HR6.out hb8) (by unfold maxLen; omega) (by omega) hb8.size ?_; intro A9 cap9 w9 own9 grow9 rd9 c9 d9; have hb9 : Below w6.heap.size w6 w9 := app_below3 (by (repeat' (first | (with_reducible first | exact Below.refl _ _ | assumption | refine below_over ?_ _ _ | refine Lw.below_alloc ?_ _ | refine Below.drew ?_ | refine below_drewN ?_ _ | refine Below.setCell ?_ ?_ _) | go_size))) grow9 (fun q hq => own_ge own8 q hq); (try simp only [Nat.zero_add, List.nil_append] at own9 rd9 c9); (try simp only [Nat.zero_add])))
              all_goals go_wp2
              all_goals go_roundw
              all_goals first
                | exact ⟨cp + 1, A9, cap9, by omega, by go_num, by first | rfl | (congr 1; omega), by rw [HNX.out]; unfold put; rw [HO.out, HP.out, List.drop_of_length_le (by have := HO.out; omega)]; have h9 := rd9; simpa using h9, by omega, by unfold maxLen at d9; omega, below_call HB6.out hb9 (Nat.le_refl _)⟩
                | (simp [intOf]; omega)
            · have hs1 : ¬ ((cp : Nat) : Int) < (p : Int) := by omega
              have hs2 : ¬ ((k : Nat) : Int) < (p : Int) := by omega
              have hs4 : ¬ cp < p := by omega
              go_wp2_with (at_builtin; refine app_any .i64 rfl _ _ 54 rfl wr.heap.size 2 i0 8 ri64s_u hi hz0 hz1 hz2 (.slice (some ⟨wr.heap.size, 0, none⟩) 0 0) 0 [] rfl (own_empty wr _ _ _ (Nat.le_refl _)) (fun h => by cases h) (some (ad.add p)) (k - p) (cp - p) (out.drop p) rfl (by simp) (by have := HO.out; simp; omega) (Rd.up (Rd.drop HRO.out p) (by (repeat' (first | (with_reducible first | exact Below.refl _ _ | assumption | refine below_over ?_ _ _ | refine Lw.below_alloc ?_ _ | refine Below.drew ?_ | refine below_drewN ?_ _ | refine Below.setCell ?_ ?_ _) | go_size)))) (by unfold maxLen; omega) (by omega) (by simp) ?_; intro A6 cap6 w6 own6 grow6 rd6 c6 d6; have hb6 : Below wr.heap.size wr w6 := app_below2 (by (repeat' (first | (with_reducible first | exact Below.refl _ _ | assumption | refine below_over ?_ _ _ | refine Lw.below_alloc ?_ _ | refine Below.drew ?_ | refine below_drewN ?_ _ | refine Below.setCell ?_ ?_ _) | go_size))) grow6 (by simp); (try simp only [Nat.zero_add, List.nil_append] at own6 rd6 c6); (try simp only [Nat.zero_add]))
              have HRO6 := Lib.hid (HRO.out.up hb6)
              have HR6 := Lib.hid rd6
              have hx6 := cell_up hcx hb6
              have HB6 := Lib.hid (below_call HB.out hb6 (Nat.le_refl _))
              unfold maxLen at d6
              clear own6 grow6 rd6 hcx hb6
              go_region_held3 (fun w' => Below w6.heap.size w6 w' ∧ w'.cell? (lad.add k) = some (.int .i64 x)) (first | (refine ⟨?_, cell_up hx6 ?_⟩ <;> (repeat' (first | (with_reducible first | exact Below.refl _ _ | assumption | refine below_over ?_ _ _ | refine Lw.below_alloc ?_ _ | refine Below.drew ?_ | refine below_drewN ?_ _ | refine Below.setCell ?_ ?_ _) | go_size)))) (first
                | (refine app_step .i64 rfl _ _ 54 rfl w6.heap.size 2 i0 8 ri64s_u hi hz0 hz1 hz2 _ 0 [] rfl (by first | exact own_empty w6 _ _ _ (Nat.le_refl _) | exact (own_empty w6 _ _ _ (Nat.le_refl _)).alloc _ | exact own_empty2 w6 _ _ _ _ (Nat.le_refl _)) (fun h => by cases h) (some ad) p cp (out.take p) rfl (by simp) (by have := HO.out; simp; omega) (Rd.up (Rd.take HRO6.out p) (by (repeat' (first | (with_reducible first | exact Below.refl _ _ | assumption | refine below_over ?_ _ _ | refine Lw.below_alloc ?_ _ | refine Below.drew ?_ | refine below_drewN ?_ _ | refine Below.setCell ?_ ?_ _) | go_size)))) (by unfold maxLen; omega) (by omega) (by simp <;> omega) ?_; intro A7 cap7 w7 own7 grow7 rd7 c7 d7; have hb7 : Below w6.heap.size w6 w7 := app_below2 (by (repeat' (first | (with_reducible first | exact Below.refl _ _ | assumption | refine below_over ?_ _ _ | refine Lw.below_alloc ?_ _ | refine Below.drew ?_ | refine below_drewN ?_ _ | refine Below.setCell ?_ ?_ _) | go_size))) grow7 (by simp); (try simp only [Nat.zero_add, List.nil_append] at own7 rd7 c7); (try simp only [Nat.zero_add]))
                | (refine app_step .i64 rfl _ _ 54 rfl w6.heap.size 2 i0 8 ri64s_u hi hz0 hz1 hz2 (.slice (some A7) p cap7) p (out.take p) rfl (by first | exact own7.alloc _ | exact own7) (fun h => by cases h) _ 1 1 [x] rfl (by simp) rfl (rd_one (by first | (simp [go_sem]; done) | exact grow7.cell (by simp [go_sem]) (by first | exact fun hne => absurd (Option.some.inj (show some (w6.heap.size + 1) = some w6.heap.size from hne)) (by omega) | exact fun hne => absurd (Option.some.inj (show some w6.heap.size = some (w6.heap.size + 1) from hne)) (by omega)))) (by unfold maxLen; omega) (by omega) (by have := hb7.size; simp <;> omega) ?_; intro A8 cap8 w8 own8 grow8 rd8 c8 d8; have hb8 : Below w6.heap.size w6 w8 := app_below3 (by (repeat' (first | (with_reducible first | exact Below.refl _ _ | assumption | refine below_over ?_ _ _ | refine Lw.below_alloc ?_ _ | refine Below.drew ?_ | refine below_drewN ?_ _ | refine Below.setCell ?_ ?_ _) | go_size))) grow8 (fun q hq => own_ge own7 q hq); (try simp only [Nat.zero_add, List.nil_append] at own8 rd8 c8); (try simp only [Nat.zero_add]))
                | (refine app_step .i64 rfl _ _ 54 rfl w6.heap.size 2 i0 8 ri64s_u hi hz0 hz1 hz2 (.slice (some A8) (p + 1) cap8) (p + 1) (out.take p ++ [x]) rfl own8 (fun h => by cases h) (some A6) (k - p) cap6 (out.drop p) rfl (by simp) (by have := HO.out; simp; omega) (Rd.up HR6.out hb8) (by unfold maxLen; omega) (by omega) hb8.size ?_; intro A9 cap9 w9 own9 grow9 rd9 c9 d9; have hb9 : Below w6.heap.size w6 w9 := app_below3 (by (repeat' (first | (with_reducible first | exact Below.refl _ _ | assumption | refine below_over ?_ _ _ | refine Lw.below_alloc ?_ _ | refine Below.drew ?_ | refine below_drewN ?_ _ | refine Below.setCell ?_ ?_ _) | go_size))) grow9 (fun q hq => own_ge own8 q hq); (try simp only [Nat.zero_add, List.nil_append] at own9 rd9 c9); (try simp only [Nat.zero_add])))
              all_goals go_wp2
              all_goals go_roundw
              all_goals first
                | exact ⟨k + 1, A9, cap9, by omega, by go_num, by first | rfl | (congr 1; omega), by rw [HNX.out]; unfold put; rw [HO.out, HP.out]; have h9 := rd9; simpa using h9, by omega, by unfold maxLen at d9; omega, below_call HB6.out hb9 (Nat.le_refl _)⟩
                | (simp [intOf]; omega)
        · obtain ⟨t, rfl⟩ : ∃ t : Nat, j = t + 1 := ⟨j - 1, by have := posN_le out x j; omega⟩
          have htl : t < out.length := by have := HO.out; omega
          obtain ⟨y, hy⟩ : ∃ y, out[t]? = some y := ⟨_, List.getElem?_eq_getElem htl⟩
          have hcy := HRO.out.at hy
          have hyb := HOZ.out.at hy
          have hgd : out[t]?.getD 0 = y := by rw [hy]; rfl
          have hxy : x < y := by
            refine Decidable.by_contra fun h => hjp ?_
            rw [← hpj]; show _ = (if x < out[t]?.getD 0 then _ else _); rw [hgd, if_neg h]
          have hw := wrap_pred t (by omega)
          have ht0 : (0 : Int) < (t : Int) + 1 := by omega
          have ht1 : ((t + 1 : Nat) : Int) = (t : Int) + 1 := by omega
          have hpt : posN out x t = p := by rw [← hpj]; show posN out x t = (if x < out[t]?.getD 0 then _ else _); rw [hgd, if_pos hxy]
          have HPT := Lib.hid hpt
          rw [ht1]
          clear hpj hpt hgd hy ht1 hjp
          go_wp2
          go_quiet (fail)
          go_wp2
          go_roundw
          case rel => exact ⟨t, _, by omega, by go_num, HPT.out, rfl⟩
          case measure => simp [intOf]
    · have e : k = n := by omega
      subst e
      rw [List.take_of_length_le (by have := HL.out; omega)] at hro
      have HRO := Lib.hid hro
      have HB := Lib.hid hbel
      clear hro hbel
      go_wp2
      go_ret
      exact ⟨_, _, rfl, HRO.out, hkc, by unfold maxLen; omega, HB.out⟩
theorem kth_get (zs : List Int) (k : Nat) (h : k < zs.length) : (srt zs)[k]? = some (kth zs k) := by
  unfold kth
  rw [List.getElem?_eq_getElem (by rw [srt_len]; exact h)]
  rfl
set_option maxRecDepth 100000 in
theorem rmedian_any (A : Option Addr) (n cap : Nat) (zs : List Int) (w : World) (hA : A = none → n = 0 ∧ cap = 0) (hn : n ≤ cap) (hcap : cap ≤ maxLen) (hr : Rd .i64 w A zs) (hl : zs.length = n) (hs : n ≤ 1000) (hz : In64 zs) :
    Calls Tryz.prog 166 #[.slice A n cap] w fun e w' => e = .returned (.tuple #[.int .i64 (kv zs (((zs.length : Int) - 1) / 2)), .bool (kb zs (((zs.length : Int) - 1) / 2))]) ∧ Below w.heap.size w w' := by
  have HR := Lib.hid hr
  have HZ := Lib.hid hz
  have HL := Lib.hid hl
  have HA := Lib.hid hA
  unfold maxLen at hcap
  by_cases h0 : n = 0
  · have e := kv_no (l := zs) (k := ((zs.length : Int) - 1) / 2) (by omega)
    have E1 := Lib.hid e.1
    have E2 := Lib.hid e.2
    subst h0
    clear e hr hz hl hA
    go_enter Tryz.func166, Tryz.ntmps166
    go_wp2
    go_ret2
    exact ⟨ret_kb E1.out.symm E2.out.symm, Below.refl _ _⟩
  · have hnz : ((n : Int) == 0) = false := by simp; omega
    have e := kv_yes (l := zs) (k := ((zs.length : Int) - 1) / 2) (by omega) (by omega)
    obtain ⟨K, hK⟩ : ∃ K : Nat, ((n : Int) - 1) / 2 = K := ⟨(((n : Int) - 1) / 2).toNat, by omega⟩
    have hKt : Int.tdiv ((n : Int) - 1) 2 = K := by rw [Int.tdiv_eq_ediv_of_nonneg (by omega)]; exact hK
    have hKn : K < n := by omega
    have e1 : kv zs (((zs.length : Int) - 1) / 2) = kth zs K := by rw [e.1, hl, hK]; rfl
    have HK := Lib.hid (kth_get zs K (by omega))
    have E1 := Lib.hid e1
    have E2 := Lib.hid e.2
    clear e e1 hr hz hl hA
    go_enter Tryz.func166, Tryz.ntmps166
    go_wp2_with (go_at_call 172; (with_reducible refine (rsorted_any A n cap zs _ HA.out hn (by unfold maxLen; omega) HR.out HL.out hs HZ.out).mono ?_); rintro e w2 ⟨A2, cap2, rfl, hrd, hc2, hm2, hb2⟩; have hcell := hrd.at HK.out)
    go_ret2
    exact ⟨ret_kb E1.out.symm E2.out.symm, hb2⟩
end Go.Proofs.YtkflggojiiebeaaGreat.Ord

namespace Go.Proofs.YtkflggojiiebeaaGreat.Wid
open Go.RowKit

def cr (x y : Int) (i : Nat) : Int := (x % (65536 ^ i) + y % (65536 ^ i)) / (65536 ^ i)
theorem b_pos (i : Nat) : (0 : Int) < 65536 ^ i := Int.pow_pos (by decide)
theorem dg_bd (x : Int) (i : Nat) : 0 ≤ dg x i ∧ dg x i ≤ 65535 := by unfold dg; omega
theorem cr_0 (x y : Int) : cr x y 0 = 0 := by unfold cr; omega
theorem cr_bd (x y : Int) (i : Nat) : 0 ≤ cr x y i ∧ cr x y i ≤ 1 := by
  have h := b_pos i
  have h1 := Int.emod_nonneg x (Int.ne_of_gt h)
  have h2 := Int.emod_nonneg y (Int.ne_of_gt h)
  have h3 := Int.emod_lt_of_pos x h
  have h4 := Int.emod_lt_of_pos y h
  unfold cr
  refine ⟨Int.ediv_nonneg (by omega) (by omega), ?_⟩
  have : (x % 65536 ^ i + y % 65536 ^ i) / 65536 ^ i < 2 := Int.ediv_lt_of_lt_mul h (by omega)
  omega
theorem cr_split (x y : Int) (i : Nat) : (x + y) / 65536 ^ i = x / 65536 ^ i + y / 65536 ^ i + cr x y i := by
  have h := b_pos i
  have e : x + y = (x % 65536 ^ i + y % 65536 ^ i) + 65536 ^ i * (x / 65536 ^ i + y / 65536 ^ i) := by
    have h1 := Int.emod_add_mul_ediv x (65536 ^ i)
    have h2 := Int.emod_add_mul_ediv y (65536 ^ i)
    rw [Int.mul_add]; omega
  unfold cr
  rw [e, Int.add_mul_ediv_left _ _ (Int.ne_of_gt h)]
  omega
theorem plus_dg (x y : Int) (i : Nat) : (dg x i + dg y i + cr x y i) % 65536 = dg (x + y) i := by
  unfold dg; rw [cr_split]; omega
theorem mod_succ (x : Int) (i : Nat) : x % 65536 ^ (i + 1) = 65536 ^ i * dg x i + x % 65536 ^ i := by
  have h := b_pos i
  have e : (65536 : Int) ^ (i + 1) = 65536 ^ i * 65536 := Int.pow_succ _ _
  unfold dg
  have h1 := Int.emod_add_mul_ediv x (65536 ^ i)
  have h2 := Int.emod_add_mul_ediv (x / 65536 ^ i) 65536
  have h3 := Int.emod_nonneg x (Int.ne_of_gt h)
  have h4 := Int.emod_lt_of_pos x h
  have h5 := Int.emod_nonneg (x / 65536 ^ i) (b := 65536) (by decide)
  have h6 := Int.emod_lt_of_pos (x / 65536 ^ i) (b := 65536) (by decide)
  generalize (65536 : Int) ^ i = B at *
  generalize x / B = q at *
  generalize x % B = r at *
  rw [e]
  have hx : x = (B * (q % 65536) + r) + B * 65536 * (q / 65536) := by
    have : B * 65536 * (q / 65536) = B * (65536 * (q / 65536)) := Int.mul_assoc _ _ _
    rw [this, ← h1]
    have : B * q = B * (q % 65536) + B * (65536 * (q / 65536)) := by rw [← Int.mul_add]; rw [h2]
    omega
  rw [hx, Int.add_mul_emod_self_left]
  have hlt : B * (q % 65536) ≤ B * 65535 := Int.mul_le_mul_of_nonneg_left (by omega) (by omega)
  have hge : 0 ≤ B * (q % 65536) := Int.mul_nonneg (by omega) h5
  exact Int.emod_eq_of_lt (by omega) (by omega)
theorem plus_cr (x y : Int) (i : Nat) : (dg x i + dg y i + cr x y i) / 65536 = cr x y (i + 1) := by
  have h := b_pos i
  have e : (65536 : Int) ^ (i + 1) = 65536 ^ i * 65536 := Int.pow_succ _ _
  unfold cr
  rw [mod_succ, mod_succ, e]
  generalize hB : (65536 : Int) ^ i = B at *
  have e2 : B * dg x i + x % B + (B * dg y i + y % B) = (x % B + y % B) + B * (dg x i + dg y i) := by rw [Int.mul_add]; omega
  rw [e2, ← Int.ediv_ediv_of_nonneg (Int.le_of_lt h), Int.add_mul_ediv_left _ _ (Int.ne_of_gt h)]
  congr 1; omega
end Go.Proofs.YtkflggojiiebeaaGreat.Wid

namespace Go.Proofs.YtkflggojiiebeaaGreat.Wid
open Go.RowKit
theorem dg_0 (z : Int) : dg z 0 = z / 1 % 65536 := by unfold dg; rw [show (65536 : Int) ^ 0 = 1 from by decide]
theorem dg_1 (z : Int) : dg z 1 = z / 65536 % 65536 := by unfold dg; rw [show (65536 : Int) ^ 1 = 65536 from by decide]
theorem dg_2 (z : Int) : dg z 2 = z / 4294967296 % 65536 := by unfold dg; rw [show (65536 : Int) ^ 2 = 4294967296 from by decide]
theorem dg_3 (z : Int) : dg z 3 = z / 281474976710656 % 65536 := by unfold dg; rw [show (65536 : Int) ^ 3 = 281474976710656 from by decide]
theorem dg_4 (z : Int) : dg z 4 = z / 18446744073709551616 % 65536 := by unfold dg; rw [show (65536 : Int) ^ 4 = 18446744073709551616 from by decide]
theorem dg_5 (z : Int) : dg z 5 = z / 1208925819614629174706176 % 65536 := by unfold dg; rw [show (65536 : Int) ^ 5 = 1208925819614629174706176 from by decide]
theorem dg_6 (z : Int) : dg z 6 = z / 79228162514264337593543950336 % 65536 := by unfold dg; rw [show (65536 : Int) ^ 6 = 79228162514264337593543950336 from by decide]
theorem dg_7 (z : Int) : dg z 7 = z / 5192296858534827628530496329220096 % 65536 := by unfold dg; rw [show (65536 : Int) ^ 7 = 5192296858534827628530496329220096 from by decide]
theorem dg_8 (z : Int) : dg z 8 = z / 340282366920938463463374607431768211456 % 65536 := by unfold dg; rw [show (65536 : Int) ^ 8 = 340282366920938463463374607431768211456 from by decide]
theorem dg_9 (z : Int) : dg z 9 = z / 22300745198530623141535718272648361505980416 % 65536 := by unfold dg; rw [show (65536 : Int) ^ 9 = 22300745198530623141535718272648361505980416 from by decide]
theorem and16 (x : Int) (h0 : 0 ≤ x) (h1 : x ≤ 18446744073709551615) : wrap64 (bits .and .u64 x 65535) = x % 65536 := by
  rw [u64_and x 65535 h0 (by omega) (by omega) (by omega)]
  have h := Nat.and_two_pow_sub_one_eq_mod x.toNat 16
  have e : ((65535 : Int).toNat) = 2 ^ 16 - 1 := by decide
  rw [e, h]; unfold wrap64; omega
theorem ret10 {a0 a1 a2 a3 a4 a5 a6 a7 a8 a9 z : Int} (h : [a0, a1, a2, a3, a4, a5, a6, a7, a8, a9] = dl z) : Ending.returned (.agg #[.int .i64 (a0), .int .i64 (a1), .int .i64 (a2), .int .i64 (a3), .int .i64 (a4), .int .i64 (a5), .int .i64 (a6), .int .i64 (a7), .int .i64 (a8), .int .i64 (a9)]) = .returned (.agg #[.int .i64 (dg z 0), .int .i64 (dg z 1), .int .i64 (dg z 2), .int .i64 (dg z 3), .int .i64 (dg z 4), .int .i64 (dg z 5), .int .i64 (dg z 6), .int .i64 (dg z 7), .int .i64 (dg z 8), .int .i64 (dg z 9)]) := by
  simp only [dl, List.cons.injEq, and_true] at h
  obtain ⟨rfl, rfl, rfl, rfl, rfl, rfl, rfl, rfl, rfl, rfl⟩ := h
  rfl
theorem ofint_dl_neg (n : Int) (n0 : -9223372036854775808 ≤ n) (n1 : n ≤ 9223372036854775807) (h : n < 0) : [wrap64 (bits .and .u64 (IntKind.u64.wrap n) 65535), wrap64 (bits .and .u64 (IntKind.u64.wrap n / 65536) 65535), wrap64 (bits .and .u64 (IntKind.u64.wrap n / 4294967296) 65535), wrap64 (bits .and .u64 (IntKind.u64.wrap n / 281474976710656) 65535), 65535, 65535, 65535, 65535, 65535, 65535] = dl (n) := by
  simp only [dl, List.cons.injEq, and_true]
  refine ⟨?_, ?_, ?_, ?_, ?_, ?_, ?_, ?_, ?_, ?_⟩
  all_goals simp only [dg_0, dg_1, dg_2, dg_3, dg_4, dg_5, dg_6, dg_7, dg_8, dg_9]
  · rw [IntKind.wrap_u64]; rw [and16 _ (by omega) (by omega)]; all_goals omega
  · rw [IntKind.wrap_u64]; rw [and16 _ (by omega) (by omega)]; all_goals omega
  · rw [IntKind.wrap_u64]; rw [and16 _ (by omega) (by omega)]; all_goals omega
  · rw [IntKind.wrap_u64]; rw [and16 _ (by omega) (by omega)]; all_goals omega
  · omega
  · omega
  · omega
  · omega
  · omega
  · omega
theorem ofint_dl_pos (n : Int) (n0 : -9223372036854775808 ≤ n) (n1 : n ≤ 9223372036854775807) (h : 0 ≤ n) : [wrap64 (bits .and .u64 (n) 65535), wrap64 (bits .and .u64 (n / 65536) 65535), wrap64 (bits .and .u64 (n / 4294967296) 65535), wrap64 (bits .and .u64 (n / 281474976710656) 65535), 0, 0, 0, 0, 0, 0] = dl (n) := by
  simp only [dl, List.cons.injEq, and_true]
  refine ⟨?_, ?_, ?_, ?_, ?_, ?_, ?_, ?_, ?_, ?_⟩
  all_goals simp only [dg_0, dg_1, dg_2, dg_3, dg_4, dg_5, dg_6, dg_7, dg_8, dg_9]
  · rw [and16 _ (by omega) (by omega)]; all_goals omega
  · rw [and16 _ (by omega) (by omega)]; all_goals omega
  · rw [and16 _ (by omega) (by omega)]; all_goals omega
  · rw [and16 _ (by omega) (by omega)]; all_goals omega
  · omega
  · omega
  · omega
  · omega
  · omega
  · omega
end Go.Proofs.YtkflggojiiebeaaGreat.Wid

namespace Go.Proofs.YtkflggojiiebeaaGreat.Wid
open Go.RowKit
theorem i64w_bd (x : Int) : -9223372036854775808 ≤ IntKind.i64.wrap x ∧ IntKind.i64.wrap x ≤ 9223372036854775807 := by rw [IntKind.wrap_i64]; omega
theorem long_u : Tryz.prog.underlying 125 = some (.array 10 3) := by kernel_rfl
def same (X Y : List Int) : Bool := decide (X = Y)
theorem same_cons (a b : Int) (X Y : List Int) : same (a :: X) (b :: Y) = ((a == b) && same X Y) := by
  unfold same; rw [Bool.eq_iff_iff]; simp
theorem same_nil : same [] [] = true := rfl
theorem int_i : (Tryz.prog.info? 3).isSome = true := by kernel_rfl
theorem int_c : Tryz.prog.cellsOf 3 = 1 := by kernel_rfl
theorem eq_long (w : World) (x0 x1 x2 x3 x4 x5 x6 x7 x8 x9 y0 y1 y2 y3 y4 y5 y6 y7 y8 y9 : Int) :
    (Op.equalIn 10000 125 (.agg #[Value.int .i64 x0, Value.int .i64 x1, Value.int .i64 x2, Value.int .i64 x3, Value.int .i64 x4, Value.int .i64 x5, Value.int .i64 x6, Value.int .i64 x7, Value.int .i64 x8, Value.int .i64 x9]) (.agg #[Value.int .i64 y0, Value.int .i64 y1, Value.int .i64 y2, Value.int .i64 y3, Value.int .i64 y4, Value.int .i64 y5, Value.int .i64 y6, Value.int .i64 y7, Value.int .i64 y8, Value.int .i64 y9])).run Tryz.prog w = .ok (same [x0, x1, x2, x3, x4, x5, x6, x7, x8, x9] [y0, y1, y2, y3, y4, y5, y6, y7, y8, y9]) w := by
  obtain ⟨i, hi⟩ := Option.isSome_iff_exists.1 int_i
  rw [show (10000 : Nat) = 9999 + 1 from rfl, run_equalIn_array w 9999 _ _ long_u hi, int_c]
  simp only [List.range, List.range.loop, Op.eqItems]
  simp [go_sem]
  repeat' split
  all_goals simp [same_cons, same_nil, *]
theorem same_dl (y z : Int) : same (dl y) (dl z) = decide (dl y = dl z) := rfl
theorem mod_eq {y z : Int} : ∀ n : Nat, (∀ i, i < n → dg y i = dg z i) → y % 65536 ^ n = z % 65536 ^ n
  | 0, _ => by simp [Int.emod_one]
  | n + 1, h => by rw [mod_succ, mod_succ, h n (by omega), mod_eq n (fun i hi => h i (by omega))]
/-- The digits tell a number that is not too large. -/
theorem dl_inj {y z : Int} (h : dl y = dl z) (y0 : -730750818665451459101842416358141509827966271488 ≤ y) (y1 : y < 730750818665451459101842416358141509827966271488) (z0 : -730750818665451459101842416358141509827966271488 ≤ z) (z1 : z < 730750818665451459101842416358141509827966271488) : y = z := by
  simp only [dl, List.cons.injEq, and_true] at h
  have hm := mod_eq 10 (fun i hi => by
    match i, hi with
    | 0, _ => exact h.1
    | 1, _ => exact h.2.1
    | 2, _ => exact h.2.2.1
    | 3, _ => exact h.2.2.2.1
    | 4, _ => exact h.2.2.2.2.1
    | 5, _ => exact h.2.2.2.2.2.1
    | 6, _ => exact h.2.2.2.2.2.2.1
    | 7, _ => exact h.2.2.2.2.2.2.2.1
    | 8, _ => exact h.2.2.2.2.2.2.2.2.1
    | 9, _ => exact h.2.2.2.2.2.2.2.2.2)
  rw [show (65536 : Int) ^ 10 = 1461501637330902918203684832716283019655932542976 from by decide] at hm
  omega
theorem nn_bd (z : Int) : -9223372036854775808 ≤ nn z ∧ nn z ≤ 9223372036854775807 := i64w_bd _
theorem or16 (x y : Int) (k : Nat) (B : Int) (hB : B = 2 ^ k) (h0 : 0 ≤ x) (h1 : x < B) (g0 : 0 ≤ y) (g1 : y ≤ 65535) (hk : B * 65536 ≤ 18446744073709551616) : bits .or .u64 x (y * B) = x + y * B := by
  obtain ⟨X, rfl⟩ := Int.eq_ofNat_of_zero_le h0
  obtain ⟨Y, rfl⟩ := Int.eq_ofNat_of_zero_le g0
  have eB : B = ((2 ^ k : Nat) : Int) := by rw [hB]; simp
  have hX : X < 2 ^ k := by omega
  have hYB : (Y : Int) * B ≤ 65535 * B := Int.mul_le_mul_of_nonneg_right g1 (by omega)
  have e2 : ((Y : Int) * B) = ((Y * 2 ^ k : Nat) : Int) := by rw [eB]; simp
  have hp : 0 ≤ (Y : Int) * B := by rw [e2]; omega
  have hlt : (X : Int) < 18446744073709551616 := by omega
  have hlt2 : (Y : Int) * B < 18446744073709551616 := by omega
  rw [u64_or _ _ h0 hlt hp hlt2, e2]
  have : (X ||| Y * 2 ^ k) = X + Y * 2 ^ k := by
    rw [Nat.or_comm, Nat.mul_comm, ← Nat.two_pow_add_eq_or_of_lt hX, Nat.add_comm]
  simp only [Int.toNat_natCast]
  rw [this]; simp
theorem or_lo (z : Int) : bits .or .u64 (bits .or .u64 (bits .or .u64 (bits .or .u64 0 (dg z 0)) (dg z 1 * 65536)) (dg z 2 * 4294967296)) (dg z 3 * 281474976710656) = z % 18446744073709551616 := by
  have b0 := dg_bd z 0
  have b1 := dg_bd z 1
  have b2 := dg_bd z 2
  have b3 := dg_bd z 3
  have e0 : bits .or .u64 0 (dg z 0) = dg z 0 := by have := or16 0 (dg z 0) 0 1 rfl (by omega) (by omega) b0.1 b0.2 (by omega); rw [Int.mul_one] at this; omega
  have e1 := or16 (dg z 0) (dg z 1) 16 65536 (by decide) (by omega) (by omega) b1.1 b1.2 (by omega)
  have e2 := or16 (dg z 0 + dg z 1 * 65536) (dg z 2) 32 4294967296 (by decide) (by omega) (by omega) b2.1 b2.2 (by omega)
  have e3 := or16 (dg z 0 + dg z 1 * 65536 + dg z 2 * 4294967296) (dg z 3) 48 281474976710656 (by decide) (by omega) (by omega) b3.1 b3.2 (by omega)
  rw [e0, e1, e2, e3]; simp only [dg_0, dg_1, dg_2, dg_3]; omega
theorem int_same (z : Int) (z0 : -730750818665451459101842416358141509827966271488 ≤ z) (z1 : z < 730750818665451459101842416358141509827966271488) : same [dg (nn z) 0, dg (nn z) 1, dg (nn z) 2, dg (nn z) 3, dg (nn z) 4, dg (nn z) 5, dg (nn z) 6, dg (nn z) 7, dg (nn z) 8, dg (nn z) 9] [dg z 0, dg z 1, dg z 2, dg z 3, dg z 4, dg z 5, dg z 6, dg z 7, dg z 8, dg z 9] = fit64 z := by
  show same (dl (nn z)) (dl z) = _
  have hb := nn_bd z
  have hm : ∃ k, z = nn z + 18446744073709551616 * k := ⟨(z - nn z) / 18446744073709551616, by unfold nn; rw [IntKind.wrap_i64]; omega⟩
  obtain ⟨k, hk⟩ := hm
  by_cases h : -9223372036854775808 ≤ z ∧ z < 9223372036854775808
  · have e : nn z = z := by omega
    rw [e, (fit64_yes h.1 h.2).1, same_dl]; simp
  · rw [(fit64_no h).1, same_dl]
    refine decide_eq_false fun e => h ?_
    have := dl_inj e (by omega) (by omega) z0 z1
    omega
theorem int_vals2 (z : Int) : (fit64 z = true → nn z = f64 z) ∧ (fit64 z = false → 0 = f64 z) := by
  have hb := nn_bd z
  have hm : ∃ k, z = nn z + 18446744073709551616 * k := ⟨(z - nn z) / 18446744073709551616, by unfold nn; rw [IntKind.wrap_i64]; omega⟩
  obtain ⟨k, hk⟩ := hm
  refine ⟨fun h => ?_, fun h => by unfold f64; simp [h]⟩
  have h2 : -9223372036854775808 ≤ z ∧ z < 9223372036854775808 := by unfold fit64 at h; simpa using h
  rw [(fit64_yes h2.1 h2.2).2]; omega
end Go.Proofs.YtkflggojiiebeaaGreat.Wid

namespace Go.Proofs.YtkflggojiiebeaaGreat.Wid
open Go.RowKit
set_option linter.unusedVariables false
set_option maxRecDepth 100000 in
theorem rofint_any (n : Int) (w : World) (n0 : -9223372036854775808 ≤ n) (n1 : n ≤ 9223372036854775807) :
    Calls Tryz.prog 58 #[.int .i64 n] w fun e w' => e = .returned (.agg #[.int .i64 (dg n 0), .int .i64 (dg n 1), .int .i64 (dg n 2), .int .i64 (dg n 3), .int .i64 (dg n 4), .int .i64 (dg n 5), .int .i64 (dg n 6), .int .i64 (dg n 7), .int .i64 (dg n 8), .int .i64 (dg n 9)]) ∧ Below w.heap.size w w' := by
  by_cases h : n < 0
  · go_enter Tryz.func58, Tryz.ntmps58
    go_wp2
    go_rounds 11
    go_returns; exact ⟨ret10 (ofint_dl_neg n n0 n1 (by omega)), by go_grown⟩
  · go_enter Tryz.func58, Tryz.ntmps58
    go_wp2
    go_rounds 11
    go_returns; exact ⟨ret10 (ofint_dl_pos n n0 n1 (by omega)), by go_grown⟩
end Go.Proofs.YtkflggojiiebeaaGreat.Wid

namespace Go.Proofs.YtkflggojiiebeaaGreat.Wid
open Go.RowKit
set_option linter.unusedVariables false
set_option maxRecDepth 100000 in
theorem rint_any (z : Int) (x0 x1 x2 x3 x4 x5 x6 x7 x8 x9 : Int) (w : World) (hx : [x0, x1, x2, x3, x4, x5, x6, x7, x8, x9] = dl z) (z0 : -730750818665451459101842416358141509827966271488 ≤ z) (z1 : z < 730750818665451459101842416358141509827966271488) :
    Calls Tryz.prog 62 #[.agg #[.int .i64 (x0), .int .i64 (x1), .int .i64 (x2), .int .i64 (x3), .int .i64 (x4), .int .i64 (x5), .int .i64 (x6), .int .i64 (x7), .int .i64 (x8), .int .i64 (x9)]] w fun e w' => e = .returned (.tuple #[.int .i64 (f64 z), .bool (fit64 z)]) ∧ Below w.heap.size w w' := by
  simp only [dl, List.cons.injEq, and_true] at hx
  obtain ⟨rfl, rfl, rfl, rfl, rfl, rfl, rfl, rfl, rfl, rfl⟩ := hx
  have b0 := dg_bd z 0
  have b1 := dg_bd z 1
  have b2 := dg_bd z 2
  have b3 := dg_bd z 3
  have el := or_lo z
  have en : IntKind.i64.wrap (z % 18446744073709551616) = nn z := rfl
  have en2 : wrap64 (z % 18446744073709551616) = nn z := by unfold nn wrap64; rw [IntKind.wrap_i64]
  have es := int_same z z0 z1
  have eq := eq_long
  have H := Lib.hid (int_vals2 z)
  clear z0 z1
  cases hf : fit64 z
  · rw [hf] at es
    have HF := Lib.hid hf; clear hf
    go_enter Tryz.func62, Tryz.ntmps62
    go_wp2
    go_rounds 5
    go_region_with (go_at_call 58; (with_reducible refine (rofint_any _ _ (nn_bd _).1 (nn_bd _).2).mono ?_); rintro e w' ⟨rfl, hb⟩; obtain ⟨hc, hfr⟩ := bcell hb)
    all_goals go_wp2
    all_goals go_ret2
    all_goals refine ⟨ret_int_bool (H.out.2 HF.out) rfl, ?_⟩
    all_goals (repeat' (first | (with_reducible exact Below.refl _ _) | (with_reducible refine below_call ?_ (by with_reducible assumption) (Nat.le_refl _)) | (with_reducible refine below_alloc ?_ _) | (with_reducible refine Below.drew ?_) | (with_reducible refine below_drewN ?_ _) | (with_reducible refine Below.setCell ?_ ?_ _) | go_size))
  · rw [hf] at es
    have HF := Lib.hid hf; clear hf
    go_enter Tryz.func62, Tryz.ntmps62
    go_wp2
    go_rounds 5
    go_region_with (go_at_call 58; (with_reducible refine (rofint_any _ _ (nn_bd _).1 (nn_bd _).2).mono ?_); rintro e w' ⟨rfl, hb⟩; obtain ⟨hc, hfr⟩ := bcell hb)
    all_goals go_wp2
    all_goals go_ret2
    all_goals refine ⟨ret_int_bool (H.out.1 HF.out) rfl, ?_⟩
    all_goals (repeat' (first | (with_reducible exact Below.refl _ _) | (with_reducible refine below_call ?_ (by with_reducible assumption) (Nat.le_refl _)) | (with_reducible refine below_alloc ?_ _) | (with_reducible refine Below.drew ?_) | (with_reducible refine below_drewN ?_ _) | (with_reducible refine Below.setCell ?_ ?_ _) | go_size))
end Go.Proofs.YtkflggojiiebeaaGreat.Wid

namespace Go.Proofs.YtkflggojiiebeaaGreat.Wid
open Go.RowKit
set_option linter.unusedVariables false
set_option maxRecDepth 100000 in
set_option maxHeartbeats 2000000 in
theorem rplus_any (x y : Int) (x0 y0 x1 y1 x2 y2 x3 y3 x4 y4 x5 y5 x6 y6 x7 y7 x8 y8 x9 y9 : Int) (w : World) (hx : [x0, x1, x2, x3, x4, x5, x6, x7, x8, x9] = dl x) (hy : [y0, y1, y2, y3, y4, y5, y6, y7, y8, y9] = dl y) :
    Calls Tryz.prog 60 #[.agg #[.int .i64 (x0), .int .i64 (x1), .int .i64 (x2), .int .i64 (x3), .int .i64 (x4), .int .i64 (x5), .int .i64 (x6), .int .i64 (x7), .int .i64 (x8), .int .i64 (x9)], .agg #[.int .i64 (y0), .int .i64 (y1), .int .i64 (y2), .int .i64 (y3), .int .i64 (y4), .int .i64 (y5), .int .i64 (y6), .int .i64 (y7), .int .i64 (y8), .int .i64 (y9)]] w fun e w' => e = .returned (.agg #[.int .i64 (dg (x + y) 0), .int .i64 (dg (x + y) 1), .int .i64 (dg (x + y) 2), .int .i64 (dg (x + y) 3), .int .i64 (dg (x + y) 4), .int .i64 (dg (x + y) 5), .int .i64 (dg (x + y) 6), .int .i64 (dg (x + y) 7), .int .i64 (dg (x + y) 8), .int .i64 (dg (x + y) 9)]) ∧ Below w.heap.size w w' := by
  simp only [dl, List.cons.injEq, and_true] at hx hy
  obtain ⟨rfl, rfl, rfl, rfl, rfl, rfl, rfl, rfl, rfl, rfl⟩ := hx
  obtain ⟨rfl, rfl, rfl, rfl, rfl, rfl, rfl, rfl, rfl, rfl⟩ := hy
  have b0 := dg_bd x 0
  have c0 := dg_bd y 0
  have p0 := plus_dg x y 0
  have q0 := plus_cr x y 0
  have r1 := cr_bd x y 1
  have b1 := dg_bd x 1
  have c1 := dg_bd y 1
  have p1 := plus_dg x y 1
  have q1 := plus_cr x y 1
  have r2 := cr_bd x y 2
  have b2 := dg_bd x 2
  have c2 := dg_bd y 2
  have p2 := plus_dg x y 2
  have q2 := plus_cr x y 2
  have r3 := cr_bd x y 3
  have b3 := dg_bd x 3
  have c3 := dg_bd y 3
  have p3 := plus_dg x y 3
  have q3 := plus_cr x y 3
  have r4 := cr_bd x y 4
  have b4 := dg_bd x 4
  have c4 := dg_bd y 4
  have p4 := plus_dg x y 4
  have q4 := plus_cr x y 4
  have r5 := cr_bd x y 5
  have b5 := dg_bd x 5
  have c5 := dg_bd y 5
  have p5 := plus_dg x y 5
  have q5 := plus_cr x y 5
  have r6 := cr_bd x y 6
  have b6 := dg_bd x 6
  have c6 := dg_bd y 6
  have p6 := plus_dg x y 6
  have q6 := plus_cr x y 6
  have r7 := cr_bd x y 7
  have b7 := dg_bd x 7
  have c7 := dg_bd y 7
  have p7 := plus_dg x y 7
  have q7 := plus_cr x y 7
  have r8 := cr_bd x y 8
  have b8 := dg_bd x 8
  have c8 := dg_bd y 8
  have p8 := plus_dg x y 8
  have q8 := plus_cr x y 8
  have r9 := cr_bd x y 9
  have b9 := dg_bd x 9
  have c9 := dg_bd y 9
  have p9 := plus_dg x y 9
  rw [cr_0, Int.add_zero] at p0 q0
  simp only [Nat.reduceAdd] at q0 q1 q2 q3 q4 q5 q6 q7 q8
  go_enter Tryz.func60, Tryz.ntmps60
  go_wp2
  refine wp_loop_rounds 11 ?_
  iterate 10 (rw [rounds_succ]; go_wp2; go_quiet (fail); go_wp2)
  rw [rounds_succ]; go_wp2
  go_returns
  refine ⟨rfl, ?_⟩
  repeat' (first | (with_reducible exact Below.refl _ _) | (with_reducible refine below_call ?_ (by with_reducible assumption) (Nat.le_refl _)) | (with_reducible refine below_alloc ?_ _) | (with_reducible refine Below.drew ?_) | (with_reducible refine below_drewN ?_ _) | (with_reducible refine Below.setCell ?_ ?_ _) | go_size)
end Go.Proofs.YtkflggojiiebeaaGreat.Wid

namespace Go.Proofs.YtkflggojiiebeaaGreat.Sed
open Go Go.RowKit

theorem bv_add (x y : Int) : bv (x + y) = bv x + bv y := by unfold bv; exact BitVec.ofInt_add x y
end Go.Proofs.YtkflggojiiebeaaGreat.Sed

namespace Go.Proofs.YtkflggojiiebeaaGreat.Sed
open Go Go.RowKit Fld

theorem bv_wrap (x : Int) : bv (IntKind.u64.wrap x) = bv x := by rw [wrap_bv, bv_val]
theorem times_odd (o x y T : Int) (hy : y % 2 = 1) (h : bv (o + x * y) = bv T) : bv (IntKind.u64.wrap (o + x) + IntKind.u64.wrap (x + x) * (y / 2)) = bv T := by
  rw [bv_add, bv_wrap, bv_mul, bv_wrap, ← bv_mul, ← bv_add, ← h]
  congr 1
  have e : y = 2 * (y / 2) + 1 := by omega
  generalize y / 2 = q at e ⊢
  subst e
  rw [Int.mul_add, Int.add_mul, Int.mul_left_comm]
  omega
theorem times_even (o x y T : Int) (hy : y % 2 = 0) (h : bv (o + x * y) = bv T) : bv (o + IntKind.u64.wrap (x + x) * (y / 2)) = bv T := by
  rw [bv_add, bv_mul, bv_wrap, ← bv_mul, ← bv_add, ← h]
  congr 1
  have e : y = 2 * (y / 2) := by omega
  generalize y / 2 = q at e ⊢
  subst e
  rw [Int.add_mul, Int.mul_left_comm]
  omega
theorem times_end (o x T : Int) (h0 : 0 ≤ o) (h1 : o ≤ 18446744073709551615) (h : bv (o + x * 0) = bv T) : o = IntKind.u64.wrap T := by
  rw [Int.mul_zero, Int.add_zero] at h
  rw [wrap_bv, ← h, val_bv o h0 h1]

def lw (b : BitVec 64) (i : Nat) : Int := val b % 2 ^ i
theorem bt_cases (b : BitVec 64) (i : Nat) : bt b i = 0 ∨ bt b i = 1 := by unfold bt; split <;> simp
theorem bt_val (b : BitVec 64) (i : Nat) : val b / 2 ^ i % 2 = bt b i := by
  unfold val bt
  rw [show b.getLsbD i = b.toNat.testBit i from rfl, Nat.testBit_eq_decide_div_mod_eq]
  have e : (b.toNat : Int) / 2 ^ i % 2 = ((b.toNat / 2 ^ i % 2 : Nat) : Int) := by simp
  rw [e]
  have : b.toNat / 2 ^ i % 2 < 2 := Nat.mod_lt _ (by omega)
  by_cases h : b.toNat / 2 ^ i % 2 = 1
  · simp [h]
  · simp [h]; omega
theorem div_bd (b : BitVec 64) (i : Nat) : 0 ≤ val b / 2 ^ i ∧ val b / 2 ^ i ≤ 18446744073709551615 := by
  rw [val_shr]
  exact val_bd _
theorem and_bt (b : BitVec 64) (i : Nat) : bits .and .u64 (val b / 2 ^ i) 1 = bt b i := by
  rw [and1 _ (div_bd b i).1 (div_bd b i).2, bt_val]
theorem xor_bt (a b : BitVec 64) (i j : Nat) : bits .xor .u64 (bt a i) (bt b j) = bt (a >>> i ^^^ b >>> j) 0 := by
  have e : bt (a >>> i ^^^ b >>> j) 0 = if a.getLsbD i ^^ b.getLsbD j then 1 else 0 := by
    unfold bt
    rw [BitVec.getLsbD_xor, BitVec.getLsbD_ushiftRight, BitVec.getLsbD_ushiftRight, Nat.add_zero, Nat.add_zero]
  rw [e]
  unfold bt
  cases a.getLsbD i <;> cases b.getLsbD j <;> decide
theorem sh_bt (k : Nat) (b : BitVec 64) (i : Nat) : bt (b >>> i ^^^ b >>> (i + k)) 0 = bt (sh k b) i := by
  unfold bt sh
  rw [BitVec.getLsbD_xor, BitVec.getLsbD_xor, BitVec.getLsbD_ushiftRight, BitVec.getLsbD_ushiftRight, BitVec.getLsbD_ushiftRight, Nat.add_zero, Nat.add_zero, Nat.add_comm i k]
theorem sh_top (k : Nat) (b : BitVec 64) (i : Nat) (h : 64 ≤ i + k) : bt b i = bt (sh k b) i := by
  unfold bt sh
  rw [BitVec.getLsbD_xor, BitVec.getLsbD_ushiftRight, BitVec.getLsbD_of_ge b (k + i) (by omega), Bool.xor_false]
theorem pow_le (i : Nat) (h : i < 64) : (0 : Int) < 2 ^ i ∧ (2 : Int) ^ i ≤ 9223372036854775808 := by
  have h1 : (2 : Nat) ^ i ≤ 2 ^ 63 := Nat.pow_le_pow_right (by omega) (by omega)
  have h0 : (0 : Nat) < 2 ^ i := Nat.pow_pos (by omega)
  have e : ((2 : Int) ^ i) = ((2 ^ i : Nat) : Int) := by simp
  rw [e]
  have e2 : (2 : Nat) ^ 63 = 9223372036854775808 := by decide
  omega
theorem bt_pow (b : BitVec 64) (i : Nat) (h : i < 64) : IntKind.u64.wrap (bt b i * 2 ^ i) = bt b i * 2 ^ i := by
  have := pow_le i h
  apply IntWalk.u64_in
  rcases bt_cases b i with e | e <;> rw [e] <;> omega
theorem lw_bd (b : BitVec 64) (i : Nat) : 0 ≤ lw b i ∧ lw b i ≤ 18446744073709551615 := by
  have hb := val_bd b
  unfold lw
  have h0 : (0 : Int) < 2 ^ i := Int.pow_pos (by omega)
  have h1 := Int.emod_nonneg (val b) (by omega : (2 : Int) ^ i ≠ 0)
  have h2 : val b % 2 ^ i ≤ val b := by
    have := Int.mul_ediv_add_emod (val b) (2 ^ i)
    have h3 : 0 ≤ val b / 2 ^ i := Int.ediv_nonneg hb.1 (by omega)
    have h4 : 0 ≤ 2 ^ i * (val b / 2 ^ i) := Int.mul_nonneg (by omega) h3
    omega
  omega
theorem lw_zero (b : BitVec 64) : lw b 0 = 0 := by unfold lw; simp
theorem lw_all (b : BitVec 64) : lw b 64 = val b := by
  have hb := val_bd b
  unfold lw
  rw [show (2 : Int) ^ 64 = 18446744073709551616 from by decide]
  omega
theorem lw_succ (b : BitVec 64) (i : Nat) : lw b (i + 1) = lw b i + bt b i * 2 ^ i := by
  rw [← bt_val]
  unfold lw val
  have e := Nat.mod_pow_succ (b := 2) (k := i) (x := b.toNat)
  have e2 : ((b.toNat : Int) % 2 ^ (i + 1)) = ((b.toNat % 2 ^ (i + 1) : Nat) : Int) := by simp
  rw [e2, e]
  simp only [Int.natCast_add, Int.natCast_mul, Int.natCast_emod, Int.natCast_ediv, Int.natCast_pow]
  rw [Int.mul_comm]
  rfl
theorem or_lw (b : BitVec 64) (i : Nat) (h : i < 64) : bits .or .u64 (lw b i) (IntKind.u64.wrap (bt b i * 2 ^ i)) = lw b (i + 1) := by
  rw [bt_pow b i h, lw_succ]
  have hl := lw_bd b i
  have hp := pow_le i h
  rcases bt_cases b i with e | e
  · rw [e, Int.zero_mul, u64_or _ 0 hl.1 (by omega) (by omega) (by omega)]
    simp
    omega
  · rw [e, Int.one_mul, u64_or _ _ hl.1 (by omega) (by omega) (by omega), Nat.or_comm]
    have ep : ((2 : Int) ^ i).toNat = 2 ^ i := by
      have : ((2 : Int) ^ i) = ((2 ^ i : Nat) : Int) := by simp
      rw [this]; rfl
    rw [nat_join i, ep]
    · have : ((2 ^ i : Nat) : Int) = 2 ^ i := by simp
      omega
    · rw [ep]; simp
    · have : lw b i < 2 ^ i := by
        unfold lw
        exact Int.emod_lt_of_pos _ hp.1
      have e3 : ((2 : Int) ^ i) = ((2 ^ i : Nat) : Int) := by simp
      omega
end Go.Proofs.YtkflggojiiebeaaGreat.Sed

namespace Go.Proofs.YtkflggojiiebeaaGreat.Sed
open Go.RowKit Lw Fld

theorem rtimes_any (a b : Int) (w : World) (h0 : 0 ≤ a) (h1 : a ≤ 18446744073709551615) (g0 : 0 ≤ b) (g1 : b ≤ 18446744073709551615) :
    Calls Tryz.prog 169 #[.int .u64 a, .int .u64 b] w fun e w' => e = .returned (.int .u64 (IntKind.u64.wrap (a * b))) ∧ w = w' := by
  go_enter Tryz.func169, Tryz.ntmps169
  go_wp2
  go_loop [0, 1, 5] (fun x y o => ∃ xx yy oo : Int, 0 ≤ xx ∧ xx ≤ 18446744073709551615 ∧ 0 ≤ yy ∧ yy ≤ 18446744073709551615 ∧ 0 ≤ oo ∧ oo ≤ 18446744073709551615 ∧ x = .int .u64 xx ∧ y = .int .u64 yy ∧ o = .int .u64 oo ∧ bv (oo + xx * yy) = bv (a * b)) (fun _ y _ => (intOf y).toNat)
  case atStart => exact ⟨_, _, _, h0, h1, g0, g1, by omega, by omega, rfl, rfl, rfl, by rw [Int.zero_add]⟩
  case round =>
    obtain ⟨x, y, o, x0, x1, y0, y1, o0, o1, rfl, rfl, rfl, hp⟩ := hrel
    have H := Lib.hid hp
    clear hp
    by_cases hz : 0 < y
    · have m1 := u64_bd (o + x)
      have m2 := u64_bd (x + x)
      by_cases ho : y % 2 = 1
      · have hd : ((y % 2 : Int) == 1) = true := by simpa using ho
        have HO := Lib.hid ho
        clear ho
        go_wp2
        go_round
        case rel => exact ⟨_, _, _, m2.1, m2.2, by omega, by omega, m1.1, m1.2, rfl, rfl, rfl, times_odd o x y _ HO.out H.out⟩
        case measure => simp [intOf]; omega
      · have hd : ((y % 2 : Int) == 1) = false := by simpa using ho
        have HO : Hid (y % 2 = 0) := Lib.hid (by omega)
        clear ho
        go_wp2
        go_round
        case rel => exact ⟨_, _, _, m2.1, m2.2, by omega, by omega, o0, o1, rfl, rfl, rfl, times_even o x y _ HO.out H.out⟩
        case measure => simp [intOf]; omega
    · obtain rfl : y = 0 := by omega
      go_wp2
      go_ret
      exact ⟨ret_int (times_end o x _ o0 o1 H.out), rfl⟩

theorem rshaken_any (z : BitVec 64) (k : Nat) (w : World) (hk : k ≤ 63) :
    Calls Tryz.prog 173 #[.int .u64 (val z), .int .i64 (k : Int)] w fun e w' => e = .returned (.int .u64 (val (sh k z))) ∧ w = w' := by
  go_enter Tryz.func173, Tryz.ntmps173
  go_wp2
  go_loop [5, 6] (fun o i => ∃ j : Nat, j ≤ 64 ∧ o = .int .u64 (lw (sh k z) j) ∧ i = .int .i64 (j : Int)) (fun _ i => (64 - intOf i).toNat)
  case atStart => exact ⟨0, by omega, by rw [lw_zero], rfl⟩
  case round =>
    obtain ⟨j, hj, rfl, rfl⟩ := hrel
    by_cases hz : j < 64
    · have e1 := and_bt z j
      have e3 := or_lw (sh k z) j hz
      by_cases ht : j + k < 64
      · have e2 := and_bt z (j + k)
        have e4 := xor_bt z z j (j + k)
        rw [sh_bt] at e4
        go_wp2
        exact ⟨⟨j + 1, by omega, rfl, rfl⟩, by simp only [intOf]; omega⟩
      · have e2 := sh_top k z j (by omega)
        rw [e2] at e1
        go_wp2
        exact ⟨⟨j + 1, by omega, rfl, rfl⟩, by simp only [intOf]; omega⟩
    · obtain rfl : j = 64 := by omega
      go_wp2
      go_ret
      exact ⟨ret_int (lw_all _), rfl⟩

theorem rmix_any (x : Int) (w : World) (h0 : 0 ≤ x) (h1 : x ≤ 18446744073709551615) :
    Calls Tryz.prog 168 #[.int .u64 x] w fun e w' => e = .returned (.int .u64 (mix x)) ∧ w = w' := by
  obtain ⟨b, rfl⟩ := val_of x h0 h1
  have q1 := rtimes_any (val (sh 30 b)) 13787848793156543929 w (val_bd _).1 (val_bd _).2 (by omega) (by omega)
  rw [mulI (sh 30 b) c1 13787848793156543929 rfl] at q1
  have q2 := rtimes_any (val (sh 27 (sh 30 b * c1))) 10723151780598845931 w (val_bd _).1 (val_bd _).2 (by omega) (by omega)
  rw [mulI (sh 27 (sh 30 b * c1)) c2 10723151780598845931 rfl] at q2
  have s1 := rshaken_any b 30 w (by omega)
  rw [show ((30 : Nat) : Int) = 30 from rfl] at s1
  have s2 := rshaken_any (sh 30 b * c1) 27 w (by omega)
  rw [show ((27 : Nat) : Int) = 27 from rfl] at s2
  have s3 := rshaken_any (sh 27 (sh 30 b * c1) * c2) 31 w (by omega)
  rw [show ((31 : Nat) : Int) = 31 from rfl] at s3
  go_enter Tryz.func168, Tryz.ntmps168
  go_wp2_with (first
    | (go_at_call 173; ((with_reducible refine s1.mono ?_)); rintro e w' ⟨rfl, rfl⟩)
    | (go_at_call 169; ((with_reducible refine q1.mono ?_)); rintro e w' ⟨rfl, rfl⟩)
    | (go_at_call 173; ((with_reducible refine s2.mono ?_)); rintro e w' ⟨rfl, rfl⟩)
    | (go_at_call 169; ((with_reducible refine q2.mono ?_)); rintro e w' ⟨rfl, rfl⟩)
    | (go_at_call 173; ((with_reducible refine s3.mono ?_)); rintro e w' ⟨rfl, rfl⟩))
  go_ret
  exact ⟨ret_int (by unfold mix mixB; rw [bv_val]), rfl⟩
theorem rdraw_any (s i : Int) (w : World) :
    Calls Tryz.prog 162 #[.int .u64 s, .int .u64 i] w fun e w' => e = .returned (.int .u64 (draw s i)) ∧ w = w' := by
  go_enter Tryz.func162, Tryz.ntmps162
  go_wp2_with (first
    | (go_at_call 169; ((with_reducible refine (rtimes_any _ _ _ (u64_bd _).1 (u64_bd _).2 (by omega) (by omega)).mono ?_)); rintro e w' ⟨rfl, rfl⟩)
    | (go_at_call 168; ((with_reducible refine (rmix_any _ _ (u64_bd _).1 (u64_bd _).2).mono ?_)); rintro e w' ⟨rfl, rfl⟩))
  go_ret
  exact ⟨rfl, rfl⟩
theorem rpair_any (s l r : Int) (w : World) (l0 : -9223372036854775808 ≤ l) (l1 : l ≤ 9223372036854775807) (r0 : -9223372036854775808 ≤ r) (r1 : r ≤ 9223372036854775807) :
    Calls Tryz.prog 149 #[.int .u64 s, .int .i64 l, .int .i64 r] w fun e w' => e = .returned (.tuple #[.int .u64 (pairA s l r), .int .u64 (pairB s l r)]) ∧ w = w' := by
  by_cases hk : 0 ≤ l ∧ l ≤ 59 ∧ 0 ≤ r ∧ r ≤ 7
  · obtain ⟨a0, a1, a2, a3⟩ := hk
    have ee : 16 * l + 2 * r = 2 * (8 * l + r) := by omega
    go_enter Tryz.func149, Tryz.ntmps149
    go_wp2_with (go_at_call 162; ((with_reducible refine (rdraw_any _ _ _).mono ?_)); rintro e w' ⟨rfl, rfl⟩)
    go_ret2
    refine ⟨ret_two ?_ ?_, rfl⟩
    · exact pairA_eq s l r ⟨a0, a1, a2, a3⟩
    · rw [Int.tmod_eq_emod_of_nonneg (draw_bd _ _).1]
      exact pairB_eq s l r ⟨a0, a1, a2, a3⟩
  · have e1 : pairA s l r = 0 := if_neg hk
    have e2 : pairB s l r = 0 := if_neg hk
    go_enter Tryz.func149, Tryz.ntmps149
    go_wp2
    all_goals go_ret2
    all_goals exact ⟨ret_two (by first | rfl | exact e1.symm) (by first | rfl | exact e2.symm), rfl⟩
end Go.Proofs.YtkflggojiiebeaaGreat.Sed

namespace Go.Proofs.YtkflggojiiebeaaGreat.Hsh
open Go.RowKit Fld Lw
set_option linter.unusedVariables false
theorem rline_any (a b x : Int) (w : World) (a0 : 0 ≤ a) (a1 : a ≤ 18446744073709551615) (b0 : 0 ≤ b) (b1 : b ≤ 18446744073709551615) (x0 : 0 ≤ x) (x1 : x ≤ 18446744073709551615) :
    Calls Tryz.prog 163 #[.int .u64 a, .int .u64 b, .int .u64 x] w fun e w' => e = .returned (.int .u64 (lin a b x)) ∧ w = w' := by
  have m := mul_bd x a
  have e : add (mul x a) b = lin a b x := by unfold lin; rw [mul_comm x a]
  go_enter Tryz.func163, Tryz.ntmps163
  go_wp2_with (first
    | (go_at_call 171; ((with_reducible refine (rmul_any x a _ x0 x1 a0 a1).mono ?_)); rintro e w' ⟨rfl, rfl⟩)
    | (go_at_call 170; ((with_reducible refine (radd_any (mul x a) b _ m.1 (by omega) b0 b1).mono ?_)); rintro e w' ⟨rfl, rfl⟩))
  go_ret
  exact ⟨rfl, rfl⟩
theorem rbucket_any (a b x n : Int) (w : World) (a0 : 0 ≤ a) (a1 : a ≤ 18446744073709551615) (b0 : 0 ≤ b) (b1 : b ≤ 18446744073709551615) (x0 : 0 ≤ x) (x1 : x ≤ 18446744073709551615) (n0 : -9223372036854775808 ≤ n) (n1 : n ≤ 9223372036854775807) :
    Calls Tryz.prog 150 #[.int .u64 a, .int .u64 b, .int .u64 x, .int .i64 n] w fun e w' => e = .returned (.int .i64 (buck a b x n)) ∧ w = w' := by
  by_cases h : n < 1
  · have e : buck a b x n = -1 := if_pos h
    go_enter Tryz.func150, Tryz.ntmps150
    go_wp2
    go_ret
    exact ⟨ret_int e.symm, rfl⟩
  · have e : buck a b x n = lin a b x % n := if_neg h
    have l := lin_bd a b x
    have m0 := Int.emod_nonneg (lin a b x) (show n ≠ 0 by omega)
    have m1 := mod_le (lin a b x) n l.1 (by omega)
    have hn : IntKind.u64.wrap n = n := IntWalk.u64_in n ⟨by omega, by omega⟩
    have hn0 : ¬ n = 0 := by omega
    go_enter Tryz.func150, Tryz.ntmps150
    go_wp2_with (go_at_call 163; ((with_reducible refine (rline_any a b x _ a0 a1 b0 b1 x0 x1).mono ?_)); rintro e w' ⟨rfl, rfl⟩)
    go_ret
    exact ⟨ret_int e.symm, rfl⟩
end Go.Proofs.YtkflggojiiebeaaGreat.Hsh

namespace Go.Proofs.YtkflggojiiebeaaGreat.Grd
open Go Go.RowKit Lw
set_option linter.unusedVariables false
theorem RG.numAt {w : World} {b : Nat} {hdr : Value} {R : List Row} (h : RG w b hdr R) {r : Row} (hr : r ∈ R) {j : Nat} {v : Int} (hv : r.2.2[j]? = some v) : w.cell? ((⟨r.1, 0, none⟩ : Addr).add j) = some (.int .i64 v) :=
  (h.rows r hr).cells (g := r.1) rfl j _ (by rw [List.getElem?_map, hv]; rfl)
theorem RG.push {w w4 : World} {b : Nat} {hdr hdr' : Value} {R : List Row} {g c : Nat} {zs : List Int} (h : RG w b hdr R) (hk : Kept (fun q => q = b ∨ hdr.ownBlock = some q) w w4)
    (hc : w4.heap[b]? = some (.cells #[hdr'] 144 (0, 0))) (ho : w4.ownsRow 0 54 1 hdr' (R.length + 1) (R.map rowHd ++ [rowHd (g, c, zs)]))
    (hr : w4.ownsRow 0 2 1 (rowHd (g, c, zs)) zs.length (zs.map (Value.int .i64))) (hg : w.heap.size ≤ g)
    (hh : hdr'.ownBlock = hdr.ownBlock ∨ ∃ q, hdr'.ownBlock = some q ∧ w.heap.size ≤ q ∧ q ≠ g) : RG w4 b hdr' (R ++ [(g, c, zs)]) := by
  have hb := h.blt (.inl rfl)
  have hold : ∀ q, hdr.ownBlock = some q → q < w.heap.size := fun q hq => h.blt (.inr (.inl hq))
  have hrow : ∀ r ∈ R, r.1 < w.heap.size := fun r hr => h.blt (.inr (.inr ⟨r, hr, rfl⟩))
  refine ⟨hc, by simpa using ho, ?_, ?_, ?_, ?_⟩
  · intro r hrm
    rcases List.mem_append.1 hrm with h1 | h1
    · exact hk.own (h.rows r h1) (fun q hq e => by
        simp [rowHd, Value.ownBlock] at hq
        rcases e with e | e
        · exact (h.apart2 r h1).1 (by rw [hq, e])
        · exact (h.apart2 r h1).2 (by rw [hq, e]))
    · simp at h1
      subst h1
      exact hr
  · rcases hh with h1 | ⟨q, h1, h2, h3⟩
    · rw [h1]; exact h.apart1
    · rw [h1]; intro e; injection e with e; omega
  · intro r hrm
    rcases List.mem_append.1 hrm with h1 | h1
    · refine ⟨(h.apart2 r h1).1, ?_⟩
      rcases hh with h2 | ⟨q, h2, h3, h4⟩
      · rw [h2]; exact (h.apart2 r h1).2
      · rw [h2]; intro e; injection e with e; have := hrow r h1; omega
    · simp at h1
      subst h1
      refine ⟨by simp only; omega, ?_⟩
      rcases hh with h2 | ⟨q, h2, h3, h4⟩
      · rw [h2]; intro e; have := hold _ e; simp only at this; omega
      · rw [h2]; intro e; injection e with e; exact h4 e
  · rw [List.map_append, List.nodup_append]
    refine ⟨h.nd, by simp, ?_⟩
    intro x hx y hy e
    simp at hy
    subst hy
    subst e
    obtain ⟨r, hr, e⟩ := List.mem_map.1 hx
    have := hrow r hr
    omega
theorem rows_info : (Tryz.prog.info? 54).map (fun i => (i.zero, i.size, i.bytes)) = some (some (.slice none 0 0), 1, 24) := by kernel_rfl
theorem rows_u : Tryz.prog.underlying 142 = some (.slice 54) := by kernel_rfl
end Go.Proofs.YtkflggojiiebeaaGreat.Grd

namespace Go.Proofs.YtkflggojiiebeaaGreat.Grd
open Go Go.RowKit Lw
set_option linter.unusedVariables false
theorem rep_next (j : Nat) : List.replicate (j + 1) (0 : Int) = List.replicate j 0 ++ [0] := by rw [List.replicate_succ']
theorem cl_lt {n : Int} {m k : Nat} (h : k < cl n m) : (k : Int) < n ∧ (k : Int) < m := by unfold cl at h; omega
theorem cl_ge {n : Int} {m k : Nat} (h : ¬ k < cl n m) : ¬ (k : Int) < n ∨ ((k : Int) < n ∧ ¬ (k : Int) < m) := by unfold cl at h; omega
/-- A new grid: all is 0, and all of it is new memory. -/
def Fresh (w : World) (b : Nat) (hdr : Value) (R : List Row) : Prop := ∀ q, RF b hdr R q → w.heap.size ≤ q
def Zeros (m n : Nat) (R : List Row) : Prop := nums R = List.replicate m (List.replicate n 0)
theorem zeros_push {m n : Nat} {R : List Row} (h : Zeros m n R) (g c : Nat) : Zeros (m + 1) n (R ++ [(g, c, List.replicate n 0)]) := by
  unfold Zeros nums at *
  rw [List.map_append, h, List.replicate_succ']
  rfl
theorem new_round {w wo wr w3 : World} {hdr : Value} {R : List Row} {k j g cp g3 cap3 : Nat} (HG : RG wo w.heap.size hdr R) (hbi : Below wo.heap.size wo wr)
    (ho : wr.ownsRow wo.heap.size 2 1 (.slice (some ⟨g, 0, none⟩) j cp) j ((List.replicate j 0).map (Value.int .i64))) (hg : wo.heap.size ≤ g)
    (own3 : w3.ownsRow 0 54 1 (.slice (some ⟨g3, 0, none⟩) (R.length + 1) cap3) (R.length + 1) (R.map rowHd ++ [.slice (some ⟨g, 0, none⟩) j cp]))
    (grow3 : (wr.alloc (.cells #[.slice (some ⟨g, 0, none⟩) j cp] 54)).grownBy w3 hdr.ownBlock) (hat3 : hdr.ownBlock = some g3 ∨ g3 = (wr.alloc (.cells #[.slice (some ⟨g, 0, none⟩) j cp] 54)).heap.size)
    (hB3 : w3.heap[w.heap.size]? = some (.cells #[hdr] 144 (0, 0))) (HZ : Zeros k j R) (HF : Fresh w w.heap.size hdr R) (HB : Below w.heap.size w wo) (hk : R.length = k) :
    RG (w3.setCell ⟨w.heap.size, 0, none⟩ (.slice (some ⟨g3, 0, none⟩) (k + 1) cap3)) w.heap.size (.slice (some ⟨g3, 0, none⟩) (k + 1) cap3) (R ++ [(g, cp, List.replicate j 0)]) ∧
      Zeros (k + 1) j (R ++ [(g, cp, List.replicate j 0)]) ∧ Fresh w w.heap.size (.slice (some ⟨g3, 0, none⟩) (k + 1) cap3) (R ++ [(g, cp, List.replicate j 0)]) ∧ Below w.heap.size w (w3.setCell ⟨w.heap.size, 0, none⟩ (.slice (some ⟨g3, 0, none⟩) (k + 1) cap3)) := by
  subst hk
  have hbl := HG.blt (.inl rfl)
  have hol : ∀ q, hdr.ownBlock = some q → q < wo.heap.size := fun q hq => HG.blt (.inr (.inl hq))
  have hgl := own_lt ho (g := g) rfl
  have hbs := hbi.size
  have hsz : (wr.alloc (.cells #[.slice (some ⟨g, 0, none⟩) j cp] 54)).heap.size = wr.heap.size + 1 := by simp
  have K3 : Kept (fun q => q = w.heap.size ∨ hdr.ownBlock = some q) wo w3 := ((Kept.of_below hbi).alloc _).grown grow3 (fun q hq => .inl (.inr hq))
  have K4 : Kept (fun q => q = w.heap.size ∨ hdr.ownBlock = some q) wo (w3.setCell ⟨w.heap.size, 0, none⟩ (.slice (some ⟨g3, 0, none⟩) (R.length + 1) cap3)) := K3.set (.inl (.inl rfl)) 0 _
  have g3b : g3 ≠ w.heap.size := by
    rcases hat3 with h1 | h1
    · intro e; exact HG.apart1 (by rw [h1, e])
    · omega
  refine ⟨HG.push (c := cp) K4 ?_ ?_ ?_ hg ?_, zeros_push HZ g cp, ?_, K4.low HB HB.size ?_⟩
  · have := heap_setCell_same w3 w.heap.size 0 _ _ (.slice (some ⟨g3, 0, none⟩) (R.length + 1) cap3) hB3
    simpa using this
  · have h1 := (Kept.set (F := fun q => q = w.heap.size) (Kept.refl _ w3) (.inl rfl) 0 (.slice (some ⟨g3, 0, none⟩) (R.length + 1) cap3)).own own3 (fun q hq e => g3b (by simp [Value.ownBlock] at hq; omega))
    simpa [rowHd] using h1
  · have K5 : Kept (fun q => q = w.heap.size ∨ hdr.ownBlock = some q) wr (w3.setCell ⟨w.heap.size, 0, none⟩ (.slice (some ⟨g3, 0, none⟩) (R.length + 1) cap3)) := (((Kept.refl _ wr).alloc _).grown grow3 (fun q hq => .inl (.inr hq))).set (.inl (.inl rfl)) 0 _
    have h1 := K5.own ho (fun q hq e => by
      simp [Value.ownBlock] at hq
      rcases e with e | e
      · omega
      · have := hol q e; omega)
    have h2 := own_mono h1 (Nat.zero_le wo.heap.size)
    simpa [rowHd] using h2
  · rcases hat3 with h1 | h1
    · exact .inl (by rw [h1]; rfl)
    · exact .inr ⟨g3, rfl, by omega, by omega⟩
  · intro q hq
    have hbb := HB.size
    rcases hq with rfl | hq | ⟨r, hr, rfl⟩
    · exact Nat.le_refl _
    · simp [Value.ownBlock] at hq
      subst hq
      rcases hat3 with h1 | h1
      · exact HF _ (.inr (.inl h1))
      · omega
    · rcases List.mem_append.1 hr with h1 | h1
      · exact HF _ (.inr (.inr ⟨r, h1, rfl⟩))
      · simp at h1
        subst h1
        simp only
        omega
  · intro q hq
    rcases hq with rfl | hq
    · exact Nat.le_refl _
    · exact HF q (.inr (.inl hq))
set_option maxRecDepth 100000 in
set_option maxHeartbeats 4000000 in
theorem rnew_any (rows width : Int) (w : World) (r0 : -9223372036854775808 ≤ rows) (r1 : rows ≤ 9223372036854775807) (c0 : -9223372036854775808 ≤ width) (c1 : width ≤ 9223372036854775807) :
    Calls Tryz.prog 118 #[.int .i64 rows, .int .i64 width] w fun e w' => ∃ (b : Nat) (hdr : Value) (R : List Row), e = .returned (.pointer (some ⟨b, 0, none⟩)) ∧ RG w' b hdr R ∧ Zeros (cl rows 8) (cl width 128) R ∧ Fresh w b hdr R ∧ Below w.heap.size w w' := by
  obtain ⟨i0, hi, hz0, hz1, hz2⟩ := info_parts i64_info
  obtain ⟨j0, hj, hy0, hy1, hy2⟩ := info_parts rows_info
  have hm8 : cl rows 8 ≤ 8 := by unfold cl; omega
  have hw128 : cl width 128 ≤ 128 := by unfold cl; omega
  have HCL := Lib.hid (fun k h => cl_lt (n := rows) (m := 8) (k := k) h)
  have HCG := Lib.hid (fun k h => cl_ge (n := rows) (m := 8) (k := k) h)
  have HWL := Lib.hid (fun k h => cl_lt (n := width) (m := 128) (k := k) h)
  have HWG := Lib.hid (fun k h => cl_ge (n := width) (m := 128) (k := k) h)
  obtain ⟨M, hM⟩ : ∃ M, cl rows 8 = M := ⟨_, rfl⟩
  obtain ⟨W, hW⟩ : ∃ W, cl width 128 = W := ⟨_, rfl⟩
  rw [hM] at HCL HCG hm8 ⊢
  rw [hW] at HWL HWG hw128 ⊢
  clear hM hW
  go_enter Tryz.func118, Tryz.ntmps118
  go_wp2
  go_loopw [6] (fun i wr => ∃ (k : Nat) (hdr : Value) (R : List Row), k ≤ M ∧ R.length = k ∧ i = .int .i64 k ∧ RG wr w.heap.size hdr R ∧ Zeros k W R ∧ Fresh w w.heap.size hdr R ∧ Below w.heap.size w wr) (fun i _ => M - (intOf i).toNat)
  case atStart =>
    refine ⟨0, .slice none 0 0, [], Nat.zero_le _, rfl, rfl, ⟨heap_alloc_new w _, World.ownsRow_nil _ _ _ _, (fun r h => by cases h), (fun h => by simp [Value.ownBlock] at h), (fun r h => by cases h), by simp⟩, rfl, ?_, Lw.below_alloc (Below.refl _ _) _⟩
    intro q hq
    rcases hq with rfl | hq | ⟨r, hr, _⟩
    · exact Nat.le_refl _
    · simp [Value.ownBlock] at hq
    · cases hr
  case round =>
    obtain ⟨k, hdr, R, hk, hRl, rfl, hrg, hzr, hfr, hbel⟩ := hrel
    have HG := Lib.hid hrg
    have HZ := Lib.hid hzr
    have HF := Lib.hid hfr
    have HB := Lib.hid hbel
    have HRL := Lib.hid hRl
    have hbs := hbel.size
    clear hrg hzr hfr hbel hRl
    by_cases hlt : k < M
    · obtain ⟨g1, g2⟩ : (k : Int) < rows ∧ (k : Int) < 8 := by have := HCL.out k hlt; omega
      obtain ⟨wo, rfl⟩ : ∃ wo, wo = wr := ⟨_, rfl⟩
      go_wp2
      go_loopw [7, 8] (fun v c wi => ∃ (j g cp : Nat), j ≤ W ∧ c = .int .i64 j ∧ v = .slice (some ⟨g, 0, none⟩) j cp ∧ wi.ownsRow wo.heap.size 2 1 v j ((List.replicate j 0).map (Value.int .i64)) ∧ wo.heap.size ≤ g ∧ Below wo.heap.size wo wi) (fun _ c _ => W - (intOf c).toNat)
      case atStart => exact ⟨0, wo.heap.size, 0, Nat.zero_le _, rfl, rfl, own_empty wo _ _ _ (Nat.le_refl _), Nat.le_refl _, Lw.below_alloc (Below.refl _ _) _⟩
      case round =>
        obtain ⟨j, g, cp, hjw, rfl, rfl, hown, hg, hbi⟩ := hrel
        have hbis := hbi.size
        by_cases hjl : j < W
        · obtain ⟨e1, e2⟩ : (j : Int) < width ∧ (j : Int) < 128 := by have := HWL.out j hjl; omega
          have HN := Lib.hid (rep_next j)
          have HBI := Lib.hid hbi
          clear hbi
          go_wp2_with (at_builtin; (refine app_one .i64 rfl _ _ 54 rfl wo.heap.size 2 i0 8 i64s_u hi hz0 hz1 hz2 (.slice (some ⟨g, 0, none⟩) j cp) j (List.replicate j 0) rfl (hown.alloc _) 0 wr.heap.size rfl (cell_one_new _ _ _) (by unfold maxLen; omega) (by omega) (by simp; omega) ?_); intro v1 w1 own1 grow1 oth1; obtain ⟨gg, cc, rfl, hgg, hgl⟩ := own1.form (by omega); have hb1 : Below wo.heap.size wo w1 := app_below3 (Lw.below_alloc HBI.out _) grow1 (fun q hq => own_ge hown q hq))
          go_roundw
          case rel => exact ⟨j + 1, gg, cc, by omega, by go_num, rfl, by rw [HN.out]; exact own1, hgg, hb1⟩
          case measure => simp [intOf]; omega
        · have e : j = W := by omega
          subst e
          have hrg1 := HG.out.keep (Kept.of_below (F := fun _ => False) hbi) (fun _ _ h => h)
          have hhd := cell_of_row wr w.heap.size 0 _ _ _ hrg1.cell
          simp only [List.getElem?_toArray, List.getElem?_cons_zero] at hhd
          have hlt1 := hrg1.blt (.inl rfl)
          have HG1 := Lib.hid hrg1
          have HBI := Lib.hid hbi
          have HO := Lib.hid hown
          have hk8 : k ≤ 8 := by omega
          clear hrg1 hbi hown
          have e0 : ¬ (j : Int) < width ∨ ((j : Int) < width ∧ ¬ (j : Int) < 128) := by have := HWG.out j (by omega); omega
          rcases e0 with e1 | ⟨e1, e2⟩
          all_goals go_wp2_with (at_builtin; (refine app_val rfl _ _ 142 rfl 0 54 j0 (.slice none 0 0) 24 rows_u hj hy0 hy1 hy2 rfl hdr k (R.map rowHd) rfl (by have h7 := HG1.out.outer.alloc (.cells #[.slice (some ⟨g, 0, none⟩) j cp] 54); rw [HRL.out] at h7; exact h7) (.slice (some ⟨g, 0, none⟩) j cp) wr.heap.size rfl (cell_one_new _ _ _) rfl (by unfold maxLen; omega) (by omega) (by omega) ?_); intro g3 cap3 w3 own3 grow3 hat3 hl3; have hB3 : w3.heap[w.heap.size]? = some (.cells #[hdr] 144 (0, 0)) := by { rw [grow3.block _ (by simp; omega) (fun e => HG1.out.apart1 e.symm)]; exact (Kept.alloc (F := fun _ => False) (Kept.refl _ wr) _).heap HG1.out.cell (fun h => h) }; have hfz3 := frozen_of_row w3 w.heap.size 0 _ _ hB3; have hcl3 := cell_of_row w3 w.heap.size 0 _ _ _ hB3; simp only [List.getElem?_toArray, List.getElem?_cons_zero] at hcl3)
          all_goals go_roundw
          all_goals first
            | (simp [intOf]; omega)
            | (refine ⟨k + 1, .slice (some ⟨g3, 0, none⟩) (k + 1) cap3, R ++ [(g, cp, List.replicate j 0)], by omega, by simp [HRL.out], by go_num, ?_⟩; exact new_round HG.out HBI.out HO.out hg (by rw [HRL.out]; exact own3) grow3 hat3 hB3 HZ.out HF.out HB.out HRL.out)
    · have e : k = M := by omega
      subst e
      have e0 : ¬ (k : Int) < rows ∨ ((k : Int) < rows ∧ ¬ (k : Int) < 8) := by have := HCG.out k (by omega); omega
      rcases e0 with e1 | ⟨e1, e2⟩
      all_goals go_wp2
      all_goals go_ret
      all_goals refine ⟨w.heap.size, ?_, hdr, R, HG.out, HZ.out, HF.out, HB.out⟩
      all_goals rfl
end Go.Proofs.YtkflggojiiebeaaGreat.Grd

namespace Go.Proofs.YtkflggojiiebeaaGreat.Grd
open Go Go.RowKit Lw
set_option linter.unusedVariables false
theorem DG.dims {w : World} {q : Addr} {G : Nat → Prop} {m n : Nat} {L : List (List Int)} (h : DG w q G m n L) : Dims m n L := by
  obtain ⟨b, hdr, R, e, hg, hn, hG, hd⟩ := h
  exact hd
theorem nums_len (R : List Row) : (nums R).length = R.length := by simp [nums]
theorem nums_mem {R : List Row} {r : Row} (h : r ∈ R) : r.2.2 ∈ nums R := List.mem_map.2 ⟨r, h, rfl⟩
theorem dnew_any (rows width : Int) (w : World) (r0 : -9223372036854775808 ≤ rows) (r1 : rows ≤ 9223372036854775807) (c0 : -9223372036854775808 ≤ width) (c1 : width ≤ 9223372036854775807) :
    Calls Tryz.prog 118 #[.int .i64 rows, .int .i64 width] w fun e w' => ∃ (q : Addr) (G : Nat → Prop), e = .returned (.pointer (some q)) ∧ DG w' q G (cl rows 8) (cl width 128) (zerosL (cl rows 8) (cl width 128)) ∧ (∀ k, G k → w.heap.size ≤ k) ∧ Below w.heap.size w w' := by
  refine (rnew_any rows width w r0 r1 c0 c1).mono ?_
  rintro e w' ⟨b, hdr, R, rfl, hg, hz, hf, hb⟩
  exact ⟨⟨b, 0, none⟩, RF b hdr R, rfl, ⟨b, hdr, R, rfl, hg, hz, fun k => Iff.rfl, dims_zeros (by unfold cl; omega) (by unfold cl; omega)⟩, hf, hb⟩
end Go.Proofs.YtkflggojiiebeaaGreat.Grd

namespace Go.Proofs.YtkflggojiiebeaaGreat.Shp
open Go Go.RowKit Lw
set_option linter.unusedVariables false
set_option linter.unusedSimpArgs false
set_option maxRecDepth 100000 in
theorem rexact_any (c : Cfg) (l : Int) (w : World) (h : c.Ok) (l0 : -9223372036854775808 ≤ l) (l1 : l ≤ 9223372036854775807) :
    Calls Tryz.prog 86 #[.agg #[.int .i64 c.bt, .int .i64 c.rw, .int .i64 c.wd, .int .i64 c.md, .int .u64 c.sd], .int .i64 l] w fun e w' => e = .returned (.bool (exactB c l)) ∧ Below w.heap.size w w' := by
  have HO := Lib.hid h
  obtain ⟨b0, b1, r0, r1, w0, w1, m0, m1, s0, s1⟩ := h
  have hk := keys_bd c l
  have he : exactB c l = decide (1 ≤ keys c l ∧ keys c l ≤ c.wd) := rfl
  have HE := Lib.hid he
  clear he
  obtain ⟨K, hK⟩ : ∃ K, keys c l = K := ⟨_, rfl⟩
  rw [hK] at hk HE
  have hu : ∀ m : Int, 0 ≤ m → m ≤ 9223372036854775807 → IntKind.u64.wrap m = m := fun m h0 h1 => IntWalk.u64_in m ⟨by omega, by omega⟩
  by_cases h0 : c.wd < 0
  · have hu2 := hu 0 (by omega) (by omega)
    go_enter Tryz.func86, Tryz.ntmps86
    go_wp2_with (go_at_call 37; (with_reducible refine (rkeys_any c l _ HO.out l0 l1).mono ?_); rintro e w' ⟨he, hb⟩; rw [hK] at he; subst he; obtain ⟨bs, d, rfl⟩ := below_grow hb; clear hb)
    all_goals go_ret
    all_goals refine ⟨ret_b (by rw [HE.out]; first | exact (decide_eq_false (fun h => by omega)).symm | exact (decide_eq_true (by omega)).symm | (rw [Bool.eq_iff_iff]; simp; omega)), ?_⟩
    all_goals (repeat' (first | (with_reducible first | exact Below.refl _ _ | assumption | refine below_over ?_ _ _ | refine Lw.below_alloc ?_ _ | refine Below.drew ?_ | refine below_drewN ?_ _ | refine Below.setCell ?_ ?_ _) | go_size))
  · have hu2 := hu c.wd (by omega) w1
    go_enter Tryz.func86, Tryz.ntmps86
    go_wp2_with (go_at_call 37; (with_reducible refine (rkeys_any c l _ HO.out l0 l1).mono ?_); rintro e w' ⟨he, hb⟩; rw [hK] at he; subst he; obtain ⟨bs, d, rfl⟩ := below_grow hb; clear hb)
    all_goals go_ret
    all_goals refine ⟨ret_b (by rw [HE.out]; first | exact (decide_eq_false (fun h => by omega)).symm | exact (decide_eq_true (by omega)).symm | (rw [Bool.eq_iff_iff]; simp; omega)), ?_⟩
    all_goals (repeat' (first | (with_reducible first | exact Below.refl _ _ | assumption | refine below_over ?_ _ _ | refine Lw.below_alloc ?_ _ | refine Below.drew ?_ | refine below_drewN ?_ _ | refine Below.setCell ?_ ?_ _) | go_size))
theorem cols_no {c : Cfg} {l k : Int} (h : ¬ k < keys c l) : cols c l k = [] := if_neg h
theorem range_next (f : Nat → Int) (r : Nat) : (List.range (r + 1)).map f = (List.range r).map f ++ [f r] := by rw [List.range_succ, List.map_append]; rfl
end Go.Proofs.YtkflggojiiebeaaGreat.Shp

namespace Go.Proofs.YtkflggojiiebeaaGreat.Lin
open Go Go.RowKit Lw Grd
set_option linter.unusedVariables false
theorem named_next (L : List (List Int)) (cols : List Int) (k : Nat) (r : List Int) (v : Int) (hr : L[k]? = some r) (hv : cols[k]? = some v) : named (L.take (k + 1)) (cols.take (k + 1)) = named (L.take k) (cols.take k) ++ [r[v.toNat]?.getD 0] := by
  obtain ⟨h1, e1⟩ := List.getElem?_eq_some_iff.1 hr
  obtain ⟨h2, e2⟩ := List.getElem?_eq_some_iff.1 hv
  unfold named
  rw [List.take_succ_eq_append_getElem h1, List.take_succ_eq_append_getElem h2, List.zipWith_append (by simp; omega), e1, e2]
  rfl
end Go.Proofs.YtkflggojiiebeaaGreat.Lin

