/- Proved here: texts joined: MgChk, AlnSame, MgLawA, ContSpan, ConNormal. -/
import Derived.Test.YticgjbckfpkpjaaGreatBu02
import Derived.Test.YticgjbckfpkpjaaGreatBu04
import Derived.Test.YticgjbckfpkpjaaGreatBu05
import Derived.Test.YticgjbckfpkpjaaGreatBu06
import Derived.Test.YticgjbckfpkpjaaGreatBu08
import Derived.Test.YticgjbckfpkpjaaGreatBu09
import Derived.Test.YticgjbckfpkpjaaGreatBu11
import Derived.Test.YticgjbckfpkpjaaGreatBu15
import Derived.Test.YticgjbckfpkpjaaGreatBu16
import Derived.Test.YticgjbckfpkpjaaGreatBu17
import Derived.Test.YticgjbckfpkpjaaGreatBu19
import Derived.Deep.QuietTactic
import Derived.Laws.StructEq
/- Proved here: the contract of the document's own answer of layer 8: Chunks. -/
namespace Go.Proofs.YticgjbckfpkpjaaGreat
open Go.RowKit
set_option linter.unusedVariables false

/-- A base, and sides, neither many nor long. -/
def smallR (base : Txs) (sides : List Txs) : Prop := sides.length ≤ 100 ∧ ∀ d ∈ base :: sides, d.length ≤ 90 ∧ ∀ s ∈ d, s.length ≤ 1000

set_option maxRecDepth 100000 in
/-- A slice's last rows. -/
theorem rowsN_tail {w : World} {B n c : Nat} {A : Option Addr} {r : Option Addr × Nat × Nat} {rows : List (Option Addr × Nat × Nat)} {xs : List Int} {xss : List (List Int)} (h : RowsN w B A n (r :: rows) (xs :: xss)) (hn : n ≤ c) (hc : c ≤ maxLen) :
    ∃ A' m k, (∀ W : World, (Instr.slice 67 (.slice A n c) (some (.int .i64 1)) none none).run Tryz.prog W = .ok (.slice A' m k) W) ∧ m ≤ k ∧ k ≤ maxLen ∧ RowsN w B A' m rows xss := by
  have hl : (r :: rows).length = n := by have := h.1.1; simpa using this
  rw [List.length_cons] at hl
  refine ⟨(if c = 1 then A else A.map (·.add 1)), n - 1, c - 1, fun W => ?_, by omega, by omega, ⟨by rw [List.length_map]; omega, fun hn1 => ?_⟩, by simpa using h.2.1, fun k r' ss' h1 h2 => h.2.2 (k + 1) r' ss' (by simpa using h1) (by simpa using h2)⟩
  · rw [run_slice_l (P := Tryz.prog) W 67 A n c Tryz.underlying67 .i64 1 (by omega) (by omega)]
    go_simp
  · obtain ⟨b, o, rfl, hb, hcell⟩ := h.1.2 (by omega)
    rw [if_neg (by omega)]
    refine ⟨b, o + 1, ?_, hb, fun j u hu => ?_⟩
    · rfl
    · rw [Nat.add_assoc, Nat.add_comm 1 j]
      exact hcell (j + 1) u (by simpa using hu)

set_option maxRecDepth 100000 in
set_option maxHeartbeats 4000000 in
theorem rChunks_any (A0 : Option Addr) (n0 c0 : Nat) (base : Txs) (A : Option Addr) (n c : Nat) (rows : List Slc) (sides : List Txs) (w : World) (hnc : n ≤ c) (hcm : c ≤ maxLen) (hsm : smallR base sides) (hA0 : TxR w w.heap.size (A0, n0, c0) base) (hA : RowsT w w.heap.size A n rows sides) :
    Calls Tryz.prog 13 #[.slice A0 n0 c0, .slice A n c] w fun e w' => ChunksOut w w' e base sides := by
  have hl := hA.len
  have hl0 : base.length = n0 := hA0.2.2.len
  have hW := Lib.hid (mWrong_any A0 n0 c0 base A n c w.heap.size rows sides w (Nat.le_trans hA0.1 hA0.2.1) (Nat.le_trans hnc hcm) (fun d hd s hs => Nat.le_trans ((hsm.2 d hd).2 s hs) (by decide)) hA0.2.2 hA)
  obtain ⟨z, hz⟩ : ∃ z, wrongN base sides = z := ⟨_, rfl⟩
  rw [hz] at hW
  by_cases h0 : z = 0
  rotate_left
  · have he : (z != 0) = true := by simpa using h0
    have hout : Hid (CutsTo base sides z []) := Lib.hid ⟨hz.symm, fun _ => rfl, fun h => absurd h h0⟩
    clear hA hA0 hsm hz
    go_enter Tryz.func13, Tryz.ntmps13
    go_wp2_with (go_at_call 33; refine hW.out.mono ?_; rintro e w1 ⟨rfl, rfl⟩)
    go_ret2
    exact ⟨z, none, 0, 0, [], rfl, Nat.le_refl _, Nat.zero_le _, Cks.nil _ _ _, hout.out, Below.refl _ _⟩
  subst h0
  obtain ⟨v1, v2, v3, v4, v5, v6⟩ := wrong_none hz
  obtain ⟨i0, hi, hzz⟩ := Option.map_eq_some_iff.1 infoTxs
  simp only [Prod.mk.injEq] at hzz
  obtain ⟨hz0, hz1, hz2⟩ := hzz
  have hb1 : Below w.heap.size w (w.alloc (.cells #[.slice A0 n0 c0] 22)) := (Below.refl _ _).alloc (Nat.le_refl _) _
  have hw0 : Hid ((w.alloc (.cells #[.slice A0 n0 c0] 22)).ownsRow w.heap.size 22 1 (.slice (some ⟨w.heap.size, 0, none⟩) 1 1) 1 [slcV (A0, n0, c0)]) := Lib.hid (World.ownsRow_lit w #[.slice A0 n0 c0] 1 (Nat.le_refl _) (by decide) rfl)
  have hrd := Lib.hid (hA.1.below hb1)
  obtain ⟨N, hN⟩ : ∃ N, 1 + n = N := ⟨_, rfl⟩
  have hle : Hid (1 + n ≤ maxLen ∧ (1 + n) * 24 ≤ 140737488355328) := Lib.hid ⟨by unfold maxLen; omega, by omega⟩
  have hfiles : Hid (∀ (A2 : Option Addr) (c2 : Nat) (w2 : World), w2.ownsRow w.heap.size 22 1 (.slice A2 N c2) N (slcV (A0, n0, c0) :: rows.map slcV) → Below w.heap.size w w2 →
      Calls Tryz.prog 34 #[.slice A2 N c2] w2 fun e w' => AllOut w2 w' e (numsL (withAll [] (base :: sides).flatten) (base :: sides))) := Lib.hid (fun A2 c2 w2 h1 h2 => by
    obtain ⟨A', c', e1, r1, r2, r3⟩ := own_slice h1
    injection e1 with e2 e3 e4
    subst e2
    refine rAll_any A2 N c2 ((A0, n0, c0) :: rows) (base :: sides) w2 ⟨r3, by simp; exact hA.2.1, fun k r ss a b => ?_⟩ (by omega) (fun f hf => (hsm.2 f hf).1)
    match k, a, b with
    | 0, a, b => simp at a b; subst a; subst b; exact (hA0.up h2).2.2
    | k + 1, a, b => exact ((hA.up h2).2.2 k r ss (by simpa using a) (by simpa using b)).2.2)
  have hlens := Lib.hid (And.intro hl (And.intro hl0 (And.intro hsm (And.intro hz hN))))
  have hbh := Lib.hid hb1
  clear hA hA0 hz v1 v2 v3 v4 v5 v6 hb1 hsm
  go_enter Tryz.func13, Tryz.ntmps13
  go_upto_region 7 with (first
    | (go_at_call 33; refine hW.out.mono ?_; rintro e w1 ⟨rfl, rfl⟩)
    | (at_builtin; refine wpList_append_reads _ rfl _ _ 23 rfl w.heap.size 22 i0 (.slice none 0 0) 24 Tryz.underlying23 hi hz0 hz1 hz2 rfl _ 1 _ rfl hw0.out w.heap.size A n c _ rfl hrd.out (slcV_one _) hle.out.1 hle.out.2 hbh.out.size ?_; intro v' w2 hown2 hg2; rw [hlens.out.2.2.2.2] at hown2; obtain ⟨A2, c2, rfl, -, -, -⟩ := own_slice hown2; have hB2 := Lib.hid (hbh.out.grown hg2 hbh.out.size fun j e => (hw0.out.lt j e).1); have hAl := Lib.hid (hfiles.out A2 c2 w2 hown2 hB2.out); clear hown2 hg2)
    | (go_at_call 34; refine hAl.out.mono ?_; rintro e w3 ⟨A3, n3, c3, rs3, rfl, h31, h32, hR3, hb3⟩; have hR3h := Lib.hid hR3; have hB3 := Lib.hid (hB2.out.trans (hb3.mono hB2.out.size)); have h3h := Lib.hid (And.intro h31 h32); clear hR3 hb3 h31 h32))
  obtain ⟨hl, hl0, hsm, hz, hN⟩ := hlens.out
  obtain ⟨v1, v2, v3, v4, v5, v6⟩ := wrong_none hz
  obtain ⟨F, hF⟩ : ∃ F : Tx → Int, F = fun s => (numOf (withAll [] (base :: sides).flatten) s : Int) := ⟨_, rfl⟩
  have hids : numsL (withAll [] (base :: sides).flatten) (base :: sides) = (base.map F) :: sides.map fun d => d.map F := by rw [hF]; rfl
  have hRR := hR3h.out
  rw [hids] at hRR
  have hrs : ∃ r rs, rs3 = r :: rs := by
    cases rs3 with
    | nil => have := hRR.2.1; simp at this
    | cons r rs => exact ⟨r, rs, rfl⟩
  obtain ⟨r, rs, rfl⟩ := hrs
  obtain ⟨A4, m4, k4, hsl, r41, r42, hR4⟩ := rowsN_tail hRR h3h.out.1 h3h.out.2
  have hn3 : n3 = n + 1 := by have := RowsN.len hRR; simp at this; omega
  obtain ⟨b, o, A5, n5, c5, xs5, rfl, hb5, hx5, hc5, hN5⟩ := RowsN.at_ hRR (k := 0) (by omega)
  simp at hx5
  subst hx5
  have hc5' : w3.cell? ⟨b, o, none⟩ = some (.slice A5 n5 c5) := hc5
  clear hc5
  have hms := Lib.hid (ms_of base sides)
  have hsz := Lib.hid (sizes_of F sides)
  obtain ⟨ms, hmse⟩ : ∃ ms, msOf (base.map F) (sides.map fun d => d.map F) = ms := ⟨_, rfl⟩
  have hmseh := Lib.hid hmse
  have hMs : Hid (MsOf base sides ms) := Lib.hid (by have := hms.out; rw [← hF] at this; rw [← hmse]; exact this)
  have hMt : Hid (∀ W, (W = w3 ∨ W = w3.drew) → Calls Tryz.prog 35 #[.slice A5 n5 c5, .slice A4 m4 k4] W fun e w' => MatsOut W w' e (szs sides) ms ∧ Below w.heap.size w w') := Lib.hid (fun W hW => by
    have hbW : Below w3.heap.size w3 W := by rcases hW with rfl | rfl; exact Below.refl _ _; exact below_drew (Below.refl _ _)
    have hm4 : m4 ≤ 1000 := by have := RowsN.len hR4; simp at this; omega
    have hn5 : n5 ≤ 1000 := by have h1 := hN5.len; have h2 := (hsm.2 base (List.mem_cons_self ..)).1; simp at h1; omega
    have := Matches_any A5 n5 c5 (base.map F) A4 m4 k4 rs (sides.map fun d => d.map F) W hn5 hm4 (fun s hs => by obtain ⟨d, hd, rfl⟩ := List.mem_map.1 hs; have := (hsm.2 d (List.mem_cons_of_mem _ hd)).1; simp; omega) ((Nums.below hN5 hbW).more hbW.size) (RowsN.up hR4 hbW)
    rw [hsz.out, hmse] at this
    exact this.mono fun e w' h => ⟨h, by obtain ⟨_, _, _, _, h9⟩ := h; exact hB3.out.trans ((hbW.trans (h9.below.mono hbW.size)).mono hB3.out.size)⟩)
  have hAlg : Hid (∀ (v1 v2 : Value) (rows5 : List (Option Addr × Nat × Nat)) (W w4 : World), MatIn W w4 v1 v2 rows5 (szs sides) ms → Calls Tryz.prog 36 #[.int .i64 n0, v1, v2] w4 fun e w' => ∃ cs, CksOut w4 w' e cs ∧ IsCut n0 (szs sides) ms cs) := Lib.hid (fun v1 v2 rows5 W w4 h => by
    obtain ⟨A6, c6, rfl, -, -, h6⟩ := nums_of_own h.own1
    obtain ⟨A7, c7, rfl, -, -, h7⟩ := h.rows2.reads
    have hlen7 : rows5.length = n := by rw [h.rows2.len, ← hmse, ms_len]; simp [hl]
    rw [szs_len, hl, hlen7]
    rw [szs_len, hl] at h6
    rw [hlen7] at h7
    have his : ∀ (k : Nat) (l : List Int) (z : Int), ms[k]? = some l → (szs sides)[k]? = some z → IsMatch n0 l z := fun k l z a b => by
      rw [← hmse] at a
      rw [← hsz.out] at b
      have := ms_match a b
      rw [List.length_map, hl0] at this
      exact this
    have hzz : ∀ z ∈ szs sides, 0 ≤ z ∧ z ≤ 1000000 := fun z hz => by
      unfold szs at hz
      obtain ⟨d, hd, rfl⟩ := List.mem_map.1 hz
      have := v6 d hd
      omega
    have hall : ∀ l ∈ ms, ∃ z, 0 ≤ z ∧ z ≤ 1000000 ∧ IsMatch n0 l z := fun l hl' => by
      obtain ⟨k, hk⟩ := List.mem_iff_getElem?.1 hl'
      have hkl := (List.getElem?_eq_some_iff.1 hk).1
      have hkm : k < (szs sides).length := by rw [szs_len]; have := hMs.out.1; omega
      have hzk : (szs sides)[k]? = some ((szs sides)[k]'hkm) := List.getElem?_eq_getElem _
      exact ⟨_, (hzz _ (List.mem_of_getElem? hzk)).1, (hzz _ (List.mem_of_getElem? hzk)).2, his k l _ hk hzk⟩
    exact rAlign_any n0 A6 c6 (szs sides) A7 n c7 rows5 ms w4 (by omega) (by omega) (by omega) hzz (fun l hl' => by
      obtain ⟨z, z1, z2, h9⟩ := hall l hl'
      exact ⟨h9.1, fun u hu hne => by have := h9.2.1 u hu hne; omega⟩) (fun i l z a b => match_may (his i l z a b) (hzz z (List.mem_of_getElem? b)).1) his h6 h7)
  have hfin : Hid (∀ cs, IsCut n0 (szs sides) ms cs → CutsTo base sides 0 cs) := Lib.hid (fun cs h => ⟨hz.symm, fun h => absurd rfl h, fun _ => ⟨ms, hMs.out, by rw [hl0]; exact h⟩⟩)
  have i1 : (0 : Int) < (n3 : Int) := by omega
  clear hl hl0 hsm hz hN v1 v2 v3 v4 v5 v6 hF hids hRR hR4 hN5 hn3 hms hmse hmseh hsz hMs hR3h hlens
  go_region_with ((go_at_call 35; refine (hMt.out _ (by first | exact .inl rfl | exact .inr rfl)).mono ?_; rintro e w4 ⟨⟨v1, v2, rows5, rfl, hMI⟩, hB4⟩; have hMIh := Lib.hid hMI; have hB4h := Lib.hid hB4; clear hMI hB4))
  all_goals
    go_wp2_with (go_at_call 36; refine (hAlg.out _ _ _ _ _ hMIh.out).mono ?_; rintro e w5 ⟨cs, ⟨A8, n8, c8, rfl, q1, q2, q3, q4⟩, hcut⟩; have hqh := Lib.hid (And.intro q1 (And.intro q2 (And.intro q3 (And.intro q4 hcut)))); clear q1 q2 q3 q4 hcut)
    go_ret2
    exact ⟨0, A8, n8, c8, cs, rfl, hqh.out.1, hqh.out.2.1, hqh.out.2.2.1, hfin.out cs hqh.out.2.2.2.2, hB4h.out.trans (hqh.out.2.2.2.1.mono hB4h.out.size)⟩
end Go.Proofs.YticgjbckfpkpjaaGreat
/- Proved here: the contract of the document's own answer Same of layer 5; behind AlnEmpty (NOT beside s05/XAlignSame, which has the same names). -/
namespace Go.Proofs.YticgjbckfpkpjaaGreat
open Go.RowKit
set_option linter.unusedVariables false

theorem neq_sp (a1 a2 b1 b2 : Int) (w : World) : (binOp .neq 45 (.agg #[.int .i64 a1, .int .i64 a2]) (.agg #[.int .i64 b1, .int .i64 b2])).run Tryz.prog w = .ok (.bool (((a1, a2) : Sp) != (b1, b2))) w := by
  go_simp
  by_cases h1 : a1 = b1 <;> by_cases h2 : a2 = b2 <;> simp [h1, h2]

theorem ksame_no {xs ys : List Ck} {k : Nat} {x y : Ck} (hx : xs[k]? = some x) (hy : ys[k]? = some y) (h : x ≠ y) : false = decide (xs = ys) := by
  rw [eq_comm, decide_eq_false_iff_not]
  rintro rfl
  rw [hx] at hy
  injection hy with hy
  exact h hy
theorem ksame_yes {xs ys : List Ck} {k : Nat} {x y : Ck} (hq : xs.take k = ys.take k) (hx : xs[k]? = some x) (hy : ys[k]? = some y) (h : x = y) : xs.take (k + 1) = ys.take (k + 1) := by
  rw [take_at hx, take_at hy, hq, h]
theorem ssame_no {xs ys : List Sp} {k : Nat} {x y : Sp} (hx : xs[k]? = some x) (hy : ys[k]? = some y) (h : (x != y) = true) : xs ≠ ys := by
  rintro rfl
  rw [hx] at hy
  injection hy with hy
  simp [hy] at h
theorem ssame_yes {xs ys : List Sp} {k : Nat} {x y : Sp} (hq : xs.take k = ys.take k) (hx : xs[k]? = some x) (hy : ys[k]? = some y) (h : (x != y) = false) : xs.take (k + 1) = ys.take (k + 1) := by
  have e : x = y := by simpa using h
  rw [take_at hx, take_at hy, hq, e]

set_option maxRecDepth 100000 in
set_option maxHeartbeats 4000000 in
theorem kSame_any (A A' : Option Addr) (n n' c c' B B' : Nat) (xs ys : List Ck) (w : World) (hn : n ≤ maxLen) (hn' : n' ≤ maxLen) (hA : Cks w B A n xs) (hA' : Cks w B' A' n' ys) :
    Calls Tryz.prog 14 #[.slice A n c, .slice A' n' c'] w fun e w' => e = .returned (.bool (decide (xs = ys))) ∧ ∃ k, w' = w.drewN k := by
  unfold maxLen at hn hn'
  have hl := hA.len
  have hl' := hA'.len
  by_cases hnn : n = n'
  · subst hnn
    go_enter Tryz.func14, Tryz.ntmps14
    go_wp2
    go_loopw [5, 6] (fun i _ wr => ∃ k : Nat, k ≤ n ∧ i = .int .i64 k ∧ Hid (xs.take k = ys.take k) ∧ ∃ q, wr = w.drewN q) (fun i _ _ => n - (intOf i).toNat)
    case atStart => exact ⟨0, Nat.zero_le _, rfl, Lib.hid rfl, 0, rfl⟩
    case round =>
      obtain ⟨k, hk, rfl, hq, q, rfl⟩ := hrel
      by_cases hlt : k < n
      · obtain ⟨b, o, ⟨x1, ⟨x2, x3⟩, xs4⟩, A1, n1, c1, rfl, hb, hx, d1, d2, d3, d4, hnc1, hm1, hS1⟩ := hA.at_ (k := k) hlt
        obtain ⟨b', o', ⟨y1, ⟨y2, y3⟩, ys4⟩, A2, n2, c2, rfl, hb', hy, e1, e2, e3, e4, hm2', hm2, hS2⟩ := hA'.at_ (k := k) hlt
        have i1 : (0 : Int) ≤ (k : Int) := by omega
        have i2 : (k : Int) < (n : Int) := by omega
        have hs1l : xs4.length = n1 := hS1.len
        have hs2l : ys4.length = n2 := hS2.len
        obtain ⟨q2, hq2⟩ : ∃ bb, (((x2, x3) : Sp) != (y2, y3)) = bb := ⟨_, rfl⟩
        have hne : ∀ W : World, (binOp .neq 45 (.agg #[.int .i64 x2, .int .i64 x3]) (.agg #[.int .i64 y2, .int .i64 y3])).run Tryz.prog W = .ok (.bool q2) W := fun W => by rw [neq_sp, hq2]
        have hq2h := Lib.hid hq2
        have hxh := Lib.hid hx
        have hyh := Lib.hid hy
        clear hq2 hx hy
        by_cases hq1 : x1 = y1
        rotate_left
        · have hno : Hid (false = decide (xs = ys)) := Lib.hid (ksame_no hxh.out hyh.out (fun e => by injection e with e _; exact hq1 e))
          obtain rfl : y1 = !x1 := by cases x1 <;> cases y1 <;> simp_all
          have hbb : (x1 != !x1) = true := by cases x1 <;> rfl
          clear hq1
          go_wp2
          go_quiet (fail)
          go_wp2
          go_ret
          exact ⟨ret_bool hno.out, _, World.drewN_drewN _ _ _⟩
        subst hq1
        have hbb : (x1 != x1) = false := by cases x1 <;> rfl
        cases q2
        rotate_left
        · have hno : Hid (false = decide (xs = ys)) := Lib.hid (ksame_no hxh.out hyh.out (fun e => by injection e with _ e; injection e with e _; have := hq2h.out; simp [e] at this))
          go_wp2
          go_quiet (fail)
          go_wp2
          go_ret
          exact ⟨ret_bool hno.out, _, World.drewN_drewN _ _ _⟩
        by_cases hn12 : n1 = n2
        rotate_left
        · have hno : Hid (false = decide (xs = ys)) := Lib.hid (ksame_no hxh.out hyh.out (fun e => by injection e with _ e; injection e with _ e; have := congrArg List.length e; omega))
          have hnb : ((n1 : Int) != (n2 : Int)) = true := by simp; omega
          go_wp2
          go_quiet (fail)
          go_wp2
          go_ret
          exact ⟨ret_bool hno.out, _, World.drewN_drewN _ _ _⟩
        subst hn12
        have hq1e : x1 = x1 := rfl
        have hq2e : ((x2, x3) : Sp) = (y2, y3) := by simpa using hq2h.out
        have hhd : Hid (xs4 = ys4 → ((x1, (x2, x3), xs4) : Ck) = (x1, (y2, y3), ys4)) := Lib.hid (fun h => by rw [hq2e, h])
        clear hq1e hq2e
        unfold maxLen at hm1
        have hS1h := Lib.hid hS1
        have hS2h := Lib.hid hS2
        clear hS1 hS2
        go_wp2
        go_quiet (fail)
        obtain ⟨z0, rfl⟩ : ∃ z0, z0 = nq := ⟨_, rfl⟩
        go_wp2
        go_loopw [6] (fun j wr => ∃ i : Nat, i ≤ n1 ∧ j = .int .i64 i ∧ Hid (xs4.take i = ys4.take i) ∧ ∃ q2, wr = w.drewN q2) (fun j _ => n1 - (intOf j).toNat)
        case atStart => exact ⟨0, Nat.zero_le _, rfl, Lib.hid rfl, _, World.drewN_drewN _ _ _⟩
        case round =>
          obtain ⟨i, hi, rfl, hqi, q4, rfl⟩ := hrel
          by_cases hin : i < n1
          · obtain ⟨g, p, ⟨s1, s2⟩, rfl, hg, hs, f1, f2⟩ := hS1h.out.at_ (k := i) hin
            obtain ⟨g', p', ⟨t1, t2⟩, rfl, hg', ht, f3, f4⟩ := hS2h.out.at_ (k := i) hin
            have i3 : (0 : Int) ≤ (i : Int) := by omega
            have i4 : (i : Int) < (n1 : Int) := by omega
            obtain ⟨q5, hq5⟩ : ∃ bb, (((s1, s2) : Sp) != (t1, t2)) = bb := ⟨_, rfl⟩
            have hne5 : ∀ W : World, (binOp .neq 45 (.agg #[.int .i64 s1, .int .i64 s2]) (.agg #[.int .i64 t1, .int .i64 t2])).run Tryz.prog W = .ok (.bool q5) W := fun W => by rw [neq_sp, hq5]
            have hq5h := Lib.hid hq5
            clear hq5
            cases q5
            · have hyes := Lib.hid (ssame_yes hqi.out hs ht hq5h.out)
              go_wp2
              go_quiet (fail)
              obtain ⟨z1, rfl⟩ : ∃ z1, z1 = nq := ⟨_, rfl⟩
              go_wp2
              go_roundw
              case rel => exact ⟨i + 1, by omega, by go_num, hyes, q4 + z1, rfl⟩
              case measure => simp [intOf]; omega
            · have hno : Hid (false = decide (xs = ys)) := Lib.hid (ksame_no hxh.out hyh.out (fun e => by injection e with _ e; injection e with _ e; exact ssame_no hs ht hq5h.out e))
              go_wp2
              go_quiet (fail)
              go_wp2
              go_ret
              exact ⟨ret_bool hno.out, _, World.drewN_drewN _ _ _⟩
          · obtain rfl : i = n1 := by omega
            have hse : xs4 = ys4 := by have := hqi.out; rwa [List.take_of_length_le (by omega), List.take_of_length_le (by omega)] at this
            have hyes := Lib.hid (ksame_yes hq.out hxh.out hyh.out (hhd.out hse))
            clear hse
            go_wp2
            go_roundw
            case rel => exact ⟨k + 1, by omega, by go_num, hyes, q4, rfl⟩
            case measure => simp [intOf]; omega
      · go_wp2
        go_ret
        exact ⟨ret_bool (by rw [eq_comm, decide_eq_true_iff]; have := hq.out; rwa [List.take_of_length_le (by omega), List.take_of_length_le (by omega)] at this), q, rfl⟩
  · have hne : (((n : Int) != (n' : Int))) = true := by simp; omega
    go_enter Tryz.func14, Tryz.ntmps14
    go_wp2
    go_ret
    exact ⟨ret_bool (by rw [eq_comm, decide_eq_false_iff_not]; rintro rfl; omega), 0, rfl⟩
end Go.Proofs.YticgjbckfpkpjaaGreat
/- Proved here: what the statement MergeChunks says, by the contracts of package merge. -/
namespace Go.Proofs.YticgjbckfpkpjaaGreat
open Go.RowKit
set_option linter.unusedVariables false

theorem fewM_M {base : Txs} {sides : List Txs} (h : fewM base sides = true) : smallM base sides := by
  obtain ⟨h1, h2, h3, h4⟩ := fewM_small h
  refine ⟨by omega, fun d hd => ?_⟩
  rcases List.mem_cons.1 hd with rfl | hd
  · exact ⟨by omega, fun s hs => by have := h3 s hs; omega⟩
  · exact ⟨by have := (h4 d hd).1; omega, fun s hs => by have := (h4 d hd).2 s hs; omega⟩
theorem fewM_R {base : Txs} {sides : List Txs} (h : fewM base sides = true) : smallR base sides := by
  obtain ⟨h1, h2, h3, h4⟩ := fewM_small h
  refine ⟨by omega, fun d hd => ?_⟩
  rcases List.mem_cons.1 hd with rfl | hd
  · exact ⟨by omega, fun s hs => by have := h3 s hs; omega⟩
  · exact ⟨by have := (h4 d hd).1; omega, fun s hs => by have := (h4 d hd).2 s hs; omega⟩

section
variable (H : MergeOk) (HC : MergeChunksOk)
include H HC

set_option maxRecDepth 100000 in
set_option maxHeartbeats 4000000 in
theorem MergeChunks_walk (A0 : Option Addr) (n0 c0 : Nat) (base : Txs) (A : Option Addr) (n c : Nat) (rows : List Slc) (sides : List Txs) (w : World) (h0 : TxR w w.heap.size (A0, n0, c0) base) (h1 : n ≤ c ∧ c ≤ maxLen ∧ RowsT w w.heap.size A n rows sides) :
    Calls Tryz.prog 3 #[.slice A0 n0 c0, .slice A n c] w fun e w' => e = .returned (.bool true) ∧ Below w.heap.size w w' := by
  have haw := Lib.hid (mAwake_any H w)
  obtain ⟨fm, hfm⟩ : ∃ fm, fewM base sides = fm := ⟨_, rfl⟩
  have hF := Lib.hid (fun (W : World) (hb : Below w.heap.size w W) => mFew_any A0 n0 c0 W.heap.size base A n c W.heap.size rows sides W (Nat.le_trans h0.1 h0.2.1) (Nat.le_trans h1.1 h1.2.1) (h0.up hb).2.2 (h1.2.2.up hb))
  rw [hfm] at hF
  cases fm
  · clear h0 h1 hfm
    go_enter Tryz.func3, Tryz.ntmps3
    go_wp2_with (first
      | (go_at_call 10; refine haw.out.mono ?_; rintro e w1 ⟨rfl, hb1⟩; have hB1 := Lib.hid hb1; clear hb1)
      | (go_at_call 11; refine (hF.out _ hB1.out).mono ?_; rintro e w2 ⟨rfl, rfl⟩))
    go_ret
    exact ⟨rfl, hB1.out⟩
  · have hsM := fewM_M hfm
    have hsR := fewM_R hfm
    have hC := Lib.hid (fun (W : World) (hb : Below w.heap.size w W) => HC A0 n0 c0 base A n c rows sides W h1.1 h1.2.1 hsM (h0.up hb) (h1.2.2.up hb))
    have hR := Lib.hid (fun (W : World) (hb : Below w.heap.size w W) => rChunks_any A0 n0 c0 base A n c rows sides W h1.1 h1.2.1 hsR (h0.up hb) (h1.2.2.up hb))
    clear h0 h1 hfm hsM hsR
    go_enter Tryz.func3, Tryz.ntmps3
    go_wp2_with (first
      | (go_at_call 10; refine haw.out.mono ?_; rintro e w1 ⟨rfl, hb1⟩; have hB1 := Lib.hid hb1; clear hb1)
      | (go_at_call 11; refine (hF.out _ hB1.out).mono ?_; rintro e w2 ⟨rfl, rfl⟩)
      | (go_at_call 12; refine (hC.out _ hB1.out).mono ?_; rintro e w3 ⟨er, A3, n3, c3, cs, rfl, q1, q2, q3, q4, q5⟩; have hq := Lib.hid (And.intro q1 (And.intro q2 (And.intro q3 q4))); have hB3 := Lib.hid (hB1.out.trans (q5.mono hB1.out.size)); clear q1 q2 q3 q4 q5)
      | (go_at_call 13; refine (hR.out _ hB3.out).mono ?_; rintro e w4 ⟨er4, A4, n4, c4, cs4, rfl, r1, r2, r3, r4, r5⟩; obtain ⟨o1, o2⟩ := hq.out.2.2.2.one r4; have hS := Lib.hid (kSame_any A3 A4 n3 n4 c3 c4 _ _ cs cs4 w4 (Nat.le_trans hq.out.1 hq.out.2.1) (Nat.le_trans r1 r2) (hq.out.2.2.1.up r5) r3); rw [show decide (cs = cs4) = true from decide_eq_true o2] at hS; subst o1; have hB4 := Lib.hid (hB3.out.trans (r5.mono hB3.out.size)); clear r1 r2 r3 r4 r5 o2)
      | (go_at_call 14; refine hS.out.mono ?_; rintro e w5 ⟨rfl, q, rfl⟩))
    go_ret
    exact ⟨rfl, below_drewN hB4.out q⟩
end
end Go.Proofs.YticgjbckfpkpjaaGreat
/- Proved here, without conditions on the program: plain facts on spans, and on what Parts tells. -/
namespace Go.Proofs.YticgjbckfpkpjaaGreat
open Go.RowKit
set_option linter.unusedVariables false

/-- Is a span one of n places? -/
def inB (s : Sp) (n : Nat) : Bool := decide (0 ≤ s.1) && decide (s.1 ≤ s.2) && decide (s.2 ≤ n)
/-- Are sides' spans, as far as place k, spans of them? -/
def insB (spans : List Sp) (sides : List Txs) (k : Nat) : Prop := ∀ (i : Nat) (s : Sp) (l : Txs), i < k → spans[i]? = some s → sides[i]? = some l → inB s l.length = true
open Classical in
noncomputable def partErr (c : Ck) (base : Txs) (sides : List Txs) : Int := if c.2.2.length ≠ sides.length then 1 else if inB c.2.1 base.length = true ∧ insB c.2.2 sides sides.length then 0 else 3
/-- The texts that lie in a span. -/
def cutT (ss : Txs) (s : Sp) : Txs := cutL ss s.1 s.2
def cutsT (spans : List Sp) (sides : List Txs) : List Txs := List.zipWith (fun s l => cutT l s) spans sides
/-- What Parts tells. -/
def PartsOut (w w' : World) (e : Ending) (er : Int) (bs : Txs) (pss : List Txs) : Prop :=
  ∃ A n c A' n' c' rows, e = .returned (.tuple #[.slice A n c, .slice A' n' c', .int .i64 er]) ∧ TxR w' w'.heap.size (A, n, c) bs ∧ n' ≤ c' ∧ c' ≤ maxLen ∧ RowsT w' w'.heap.size A' n' rows pss ∧ Below w.heap.size w w'
/-- The same, the base's part below a bound of its own. -/
def PartsOutB (B : Nat) (w w' : World) (e : Ending) (er : Int) (bs : Txs) (pss : List Txs) : Prop :=
  ∃ A n c A' n' c' rows, e = .returned (.tuple #[.slice A n c, .slice A' n' c', .int .i64 er]) ∧ TxR w' B (A, n, c) bs ∧ n' ≤ c' ∧ c' ≤ maxLen ∧ RowsT w' w'.heap.size A' n' rows pss ∧ Below w.heap.size w w'
theorem PartsOutB.nothing {B : Nat} {w w' : World} (er : Int) (h : Below w.heap.size w w') : PartsOutB B w w' (.returned (.tuple #[.slice none 0 0, .slice none 0 0, .int .i64 er])) er [] [] :=
  ⟨.none, 0, 0, .none, 0, 0, [], rfl, TxR.nil _ _, Nat.le_refl _, Nat.zero_le _, RowsT.nil _ _ _, h⟩
theorem PartsOutB.out {B : Nat} {w w' : World} {e : Ending} {er : Int} {bs : Txs} {pss : List Txs} (hB : B ≤ w.heap.size) (h : PartsOutB B w w' e er bs pss) : PartsOut w w' e er bs pss := by
  obtain ⟨A, n, c, A', n', c', rows, h1, h2, h3, h4, h5, h6⟩ := h
  exact ⟨A, n, c, A', n', c', rows, h1, h2.more (Nat.le_trans hB h6.size), h3, h4, h5, h6⟩
theorem PartsOut.nothing {w w' : World} (er : Int) (h : Below w.heap.size w w') : PartsOut w w' (.returned (.tuple #[.slice none 0 0, .slice none 0 0, .int .i64 er])) er [] [] :=
  ⟨.none, 0, 0, .none, 0, 0, [], rfl, TxR.nil _ _, Nat.le_refl _, Nat.zero_le _, RowsT.nil _ _ _, h⟩

theorem inB_parts {s : Sp} {n : Nat} (h : inB s n = true) : 0 ≤ s.1 ∧ s.1 ≤ s.2 ∧ s.2 ≤ n := by
  unfold inB at h
  simpa [and_assoc] using h
theorem insB_step {spans : List Sp} {sides : List Txs} {k : Nat} {s : Sp} {l : Txs} (h1 : spans[k]? = some s) (h2 : sides[k]? = some l) : insB spans sides (k + 1) ↔ insB spans sides k ∧ inB s l.length = true := by
  constructor
  · intro h
    exact ⟨fun i s l hi a b => h i s l (by omega) a b, h k s l (by omega) h1 h2⟩
  · rintro ⟨h, h'⟩ i s' l' hi a b
    rcases Nat.lt_or_ge i k with hk | hk
    · exact h i s' l' hk a b
    · obtain rfl : i = k := by omega
      rw [h1] at a
      rw [h2] at b
      injection a with a
      injection b with b
      subst a
      subst b
      exact h'
theorem cutsT_step {spans : List Sp} {sides : List Txs} {k : Nat} {s : Sp} {l : Txs} (h1 : spans[k]? = some s) (h2 : sides[k]? = some l) : (cutsT spans sides).take (k + 1) = (cutsT spans sides).take k ++ [cutT l s] := by
  refine take_at ?_
  unfold cutsT
  rw [List.getElem?_zipWith, h1, h2]

theorem err_arg {c : Ck} {base : Txs} {sides : List Txs} (h : c.2.2.length ≠ sides.length) : partErr c base sides = 1 := by unfold partErr; rw [if_pos h]
theorem err_range {c : Ck} {base : Txs} {sides : List Txs} (h : c.2.2.length = sides.length) (h2 : ¬ (inB c.2.1 base.length = true ∧ insB c.2.2 sides sides.length)) : partErr c base sides = 3 := by unfold partErr; rw [if_neg (by simpa using h), if_neg h2]
theorem err_none {c : Ck} {base : Txs} {sides : List Txs} (h : c.2.2.length = sides.length) (h2 : inB c.2.1 base.length = true ∧ insB c.2.2 sides sides.length) : partErr c base sides = 0 := by unfold partErr; rw [if_neg (by simpa using h), if_pos h2]
/-- The texts that Parts tells. -/
noncomputable def partBase (c : Ck) (base : Txs) (sides : List Txs) : Txs := if partErr c base sides = 0 then cutT base c.2.1 else []
noncomputable def partSides (c : Ck) (base : Txs) (sides : List Txs) : List Txs := if partErr c base sides = 0 then cutsT c.2.2 sides else []

end Go.Proofs.YticgjbckfpkpjaaGreat
/- What the statements ask of pick.Normal. -/
namespace Go.Proofs.YticgjbckfpkpjaaGreat
open Go.RowKit
set_option linter.unusedVariables false

/-- Conflicts that aren't too long. -/
def smallN (ps : List Pc) : Prop := ∀ p ∈ ps, p.2.2.2.length ≤ 1000 ∧ ∀ d ∈ p.2.2.1 :: p.2.2.2, d.length ≤ 1000000
theorem smallN_text (t : Txs) : (tPc t).2.2.2.length ≤ 1000 ∧ ∀ d ∈ (tPc t).2.2.1 :: (tPc t).2.2.2, d.length ≤ 1000000 :=
  ⟨by simp [tPc], fun d hd => by simp [tPc] at hd; subst hd; simp⟩
theorem smallN_join (t : Txs) : ∀ {r : List Pc}, smallN r → smallN (joinT t r)
  | [], h => by
    show smallN (if t = [] then [] else [tPc t])
    by_cases e : t = []
    · rw [if_pos e]; exact h
    · rw [if_neg e]
      intro p hp
      rw [List.mem_singleton.1 hp]
      exact smallN_text t
  | (false, x, b, s) :: r, h => by
    intro p hp
    rcases List.mem_cons.1 hp with rfl | hp
    · exact h (false, x, b, s) (List.mem_cons_self ..)
    · exact h _ (List.mem_cons_of_mem _ hp)
  | (true, x, b, s) :: r, h => by
    show smallN (if t = [] then (true, x, b, s) :: r else tPc t :: (true, x, b, s) :: r)
    by_cases e : t = []
    · rw [if_pos e]; exact h
    · rw [if_neg e]
      intro p hp
      rcases List.mem_cons.1 hp with rfl | hp
      · exact smallN_text t
      · exact h _ hp
theorem smallN_normal : ∀ {ps : List Pc}, smallN ps → smallN (normal ps)
  | [], h => h
  | (true, x, b, s) :: l, h => by
    intro p hp
    rcases List.mem_cons.1 hp with rfl | hp
    · exact h (true, x, b, s) (List.mem_cons_self ..)
    · exact smallN_normal (fun q hq => h q (List.mem_cons_of_mem _ hq)) p hp
  | (false, t, b, s) :: l, h => smallN_join t (smallN_normal fun q hq => h q (List.mem_cons_of_mem _ hq))

theorem sumT_join (t : Txs) : ∀ r : List Pc, sumT (joinT t r) = t.length + sumT r
  | [] => by unfold joinT; by_cases h : t = [] <;> simp [h, sumT, tPc]
  | (false, x, b, s) :: r => by simp [joinT, sumT]; omega
  | (true, x, b, s) :: r => by unfold joinT; by_cases h : t = [] <;> simp [h, sumT, tPc]
theorem sumT_normal : ∀ ps : List Pc, sumT (normal ps) ≤ sumT ps
  | [] => by simp [normal]
  | (true, t, b, s) :: l => by
    have := sumT_normal l
    rw [normal, sumT_cons, sumT_cons]
    show ([] : Txs).length + _ ≤ _
    simp
    omega
  | (false, t, b, s) :: l => by
    have := sumT_normal l
    rw [normal, sumT_join, sumT_cons]
    show _ ≤ t.length + _
    omega

theorem len_join (t : Txs) : ∀ r : List Pc, (joinT t r).length ≤ r.length + 1
  | [] => by unfold joinT; by_cases h : t = [] <;> simp [h]
  | (false, x, b, s) :: r => by simp [joinT]
  | (true, x, b, s) :: r => by unfold joinT; by_cases h : t = [] <;> simp [h]
theorem len_normal : ∀ ps : List Pc, (normal ps).length ≤ ps.length
  | [] => Nat.le_refl _
  | (true, x, b, s) :: l => by
    have := len_normal l
    simp [normal]
    omega
  | (false, x, b, s) :: l => by
    have h1 := len_normal l
    have h2 := len_join x (normal l)
    simp only [normal, List.length_cons]
    omega
theorem sumT_mem {ps : List Pc} {p : Pc} (h : p ∈ ps) : p.2.1.length ≤ sumT ps := by
  induction ps with
  | nil => simp at h
  | cons q ps ih =>
    rw [sumT_cons]
    rcases List.mem_cons.1 h with rfl | h
    · omega
    · have := ih h
      omega
theorem sumT_take (ps : List Pc) (i : Nat) : sumT (ps.take i) ≤ sumT ps := by
  induction ps generalizing i with
  | nil => simp
  | cons p ps ih =>
    cases i with
    | zero => simp [sumT]
    | succ i =>
      rw [List.take_succ_cons, sumT_cons, sumT_cons]
      have := ih i
      omega

/-- The contract of pick.Normal. -/
def PickNormalOk : Prop := ∀ (A : Option Addr) (n c : Nat) (vs : List PcV) (ps : List Pc) (w : World), n ≤ c → c ≤ maxLen → n ≤ 10000 → sumT ps ≤ 1000000 → smallN ps → Pcs w w.heap.size A n vs ps →
    Calls Tryz.prog 39 #[.slice A n c] w fun e w' => PcsOut w w' e (normal ps)
end Go.Proofs.YticgjbckfpkpjaaGreat
