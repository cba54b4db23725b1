/- Proved here: texts joined: EdDo. -/
import Derived.Test.YtdfpifipkchmnaaGreatDoorBa20
import Derived.Deep.RegionHeld3
/- Proved here: the contract of the document's own answer of layer 17: do. -/
namespace Go.Proofs.YtdfpifipkchmnaaGreatDoor
open Go.RowKit
set_option linter.unusedVariables false
set_option maxRecDepth 100000

/-- What a step leaves, one by one. -/
def resE (file : Txs) (sv : Bool) (at_ : Nat) (x : StE) : Txs × Bool × Nat × Nat × Nat := match x with
  | .inl y => (file, sv, at_, y.1, y.2)
  | .inr y => (y.1, y.2.1, at_ + y.2.2, 0, 0)
theorem res_eq (w w' : World) (e : Ending) (file : Txs) (sv : Bool) (at_ : Nat) (x : StE) : StRes w w' e file sv at_ x ↔ StOut w w' e (resE file sv at_ x).1 (resE file sv at_ x).2.1 (resE file sv at_ x).2.2.1 (resE file sv at_ x).2.2.2.1 (resE file sv at_ x).2.2.2.2 := by
  cases x <;> exact Iff.rfl
theorem do_fin {w w4 : World} {g n5 c5 at5 b5 l5 : Nat} {A5 : Option Addr} {sv5 : Bool} {f : Txs} {tmps : Array Value} (hlow : w.heap.size ≤ g) (hB : Below w.heap.size w w4) (h52 : w4.heap[g]? = some (.cells #[.slice none 0 0, .bool false, .int .i64 0, .int .i64 0, .int .i64 0] 45 (0, 0))) (h2 : tmps[6]? = some (.pointer (some ⟨g, 0, none⟩))) (hT : TxR w4 w4.heap.size (A5, n5, c5) f) {Q : Ending → World → Prop} (hQ : ∀ e w', StOut w w' e f sv5 at5 b5 l5 → Q e w') :
    bodyPost Tryz.prog Tryz.f25 Q Exit.ret { tmps := tmps, defers := [] } (setS w4 g (.slice A5 n5 c5) (.bool sv5) (.int .i64 (at5 : Int)) (.int .i64 (b5 : Int)) (.int .i64 (l5 : Int))) := by
  have hh := setS_at (.slice A5 n5 c5) (.bool sv5) (.int .i64 (at5 : Int)) (.int .i64 (b5 : Int)) (.int .i64 (l5 : Int)) h52
  have hb := setS_below (.slice A5 n5 c5) (.bool sv5) (.int .i64 (at5 : Int)) (.int .i64 (b5 : Int)) (.int .i64 (l5 : Int)) hB hlow
  have hbt := setS_but w4 g (.slice A5 n5 c5) (.bool sv5) (.int .i64 (at5 : Int)) (.int .i64 (b5 : Int)) (.int .i64 (l5 : Int))
  have hT2 := TxR.but hT hbt (fun hn q o hA => not_state hT h52 hn hA)
  obtain ⟨V, hV⟩ : ∃ V, setS w4 g (.slice A5 n5 c5) (.bool sv5) (.int .i64 (at5 : Int)) (.int .i64 (b5 : Int)) (.int .i64 (l5 : Int)) = V := ⟨_, rfl⟩
  rw [hV] at hh hb hT2 ⊢
  obtain ⟨⟨y0, y1, y2, y3, y4⟩, -⟩ := st_cells hh
  refine bodyPost_ret (v := stV A5 n5 c5 sv5 at5 b5 l5) (by simp [stV, results, Tryz.results25, go_sem, h2, y0, y1, y2, y3, y4]) rfl (hQ _ _ ⟨A5, n5, c5, rfl, hT2, hb⟩)
theorem three_a (w : World) (o1 o2 o3 : Obj) : (((w.alloc o1).alloc o2).alloc o3).heap[w.heap.size]? = some o1 ∧ (((w.alloc o1).alloc o2).alloc o3).heap[w.heap.size + 1]? = some o2 ∧ (((w.alloc o1).alloc o2).alloc o3).heap[w.heap.size + 1 + 1]? = some o3 := by
  simp only [push_at, push_size]
  refine ⟨?_, ?_, ?_⟩
  · rw [if_neg (by omega), if_neg (by omega), if_pos trivial]
  · rw [if_neg (by omega), if_pos trivial]
  · rw [if_pos trivial]

set_option maxHeartbeats 16000000 in
theorem rDo_any (A : Option Addr) (n c : Nat) (sv : Bool) (at_ : Nat) (file : Txs) (As : Option Addr) (ns cs : Nat) (script : Txs) (m k : Nat) (what : UInt8) (w : World) (hf : file.length ≤ 100000) (hs : smallD script) (hfs : ∀ s ∈ file, s.length ≤ 1000000) (hat : at_ < ns) (hmb : m ≤ 1000000000) (hkb : k ≤ 1000000000) (hwh : what = 97 ∨ what = 99 ∨ what = 100 ∨ what = 115) (ha97 : what = 97 → k = m) (hA : TxR w w.heap.size (A, n, c) file) (hS : TxR w w.heap.size (As, ns, cs) script) :
    Calls Tryz.prog 25 #[stV A n c sv at_ 0 0, .slice As ns cs, .agg #[.int .i64 (m : Int), .int .i64 (k : Int), .int .u8 (what.toNat : Int)]] w fun e w' => StRes w w' e file sv at_ (doE ns at_ (script.drop (at_ + 1)) file (m : Int) (k : Int) what) := by
  have hfl : file.length = n := hA.2.2.len
  have hsl : script.length = ns := hS.2.2.len
  have hnb : ns ≤ 100000 := by have := hs.1; omega
  have hnf : n ≤ 1000000 := by omega
  obtain ⟨C, hC⟩ : ∃ C : Int, (what.toNat : Int) = C := ⟨_, rfl⟩
  rw [hC]
  obtain ⟨W2, hW2⟩ : ∃ W2, W2 = ((w.alloc (.cells #[.slice A n c, .bool sv, .int .i64 (at_ : Int), .int .i64 0, .int .i64 0] 45)).alloc (.cells #[.int .i64 (m : Int), .int .i64 (k : Int), .int .u8 C] 47)).alloc (.cells #[.slice none 0 0, .bool false, .int .i64 0, .int .i64 0, .int .i64 0] 45) := ⟨_, rfl⟩
  obtain ⟨k1, k2, k3⟩ := three_a w (.cells #[.slice A n c, .bool sv, .int .i64 (at_ : Int), .int .i64 0, .int .i64 0] 45) (.cells #[.int .i64 (m : Int), .int .i64 (k : Int), .int .u8 C] 47) (.cells #[.slice none 0 0, .bool false, .int .i64 0, .int .i64 0, .int .i64 0] 45)
  have hb2 : Below w.heap.size w W2 := by rw [hW2]; exact below_alloc (below_alloc (below_alloc (Below.refl _ _) _) _) _
  rw [← hW2] at k1 k2 k3
  have hs2z : W2.heap.size = w.heap.size + 1 + 1 + 1 := by rw [hW2, push_size, push_size, push_size]
  have hcell : Hid (∀ V, Below W2.heap.size W2 V → V.heap[w.heap.size + 1 + 1]? = some (.cells #[.slice none 0 0, .bool false, .int .i64 0, .int .i64 0, .int .i64 0] 45 (0, 0))) := Lib.hid (fun V hV => (hV.block _ (by omega)).trans k3)
  have hW2h := Lib.hid hW2
  have hb2h := Lib.hid hb2
  have hs2h := Lib.hid hs2z
  have hb0 := Lib.hid (Below.refl W2.heap.size W2)
  have hAu := hA.up hb2
  have hSu := hS.up hb2
  have hAh := Lib.hid hAu
  obtain ⟨P, hP⟩ : ∃ P, at_ + 1 = P := ⟨_, rfl⟩
  have e8 : IntKind.i64.wrap (P : Int) = (P : Int) := IntWalk.i64_in _ (by omega)
  have e9 : (at_ : Int) + 1 = (P : Int) := by omega
  have hfail : Hid (∀ (b l : Nat) (W : World), Below W2.heap.size W2 W → Calls Tryz.prog 24 #[.agg #[.slice A n c, .bool sv, .int .i64 (at_ : Int), .int .i64 0, .int .i64 0], .int .i64 (b : Int), .int .i64 (l : Int)] W fun e w' => e = .returned (.agg #[.slice A n c, .bool sv, .int .i64 (at_ : Int), .int .i64 (b : Int), .int .i64 (l : Int)]) ∧ Below W2.heap.size W2 w') := Lib.hid (fun b l W hW => (rFail_any A n c sv at_ 0 0 b l W).mono fun e w' h => ⟨h.1, hW.trans (h.2.mono hW.size)⟩)
  obtain ⟨⟨x0, x1, x2, x3, x4⟩, -⟩ := st_cells k1
  have z0 : W2.cell? ⟨w.heap.size + 1, 0, none⟩ = some (.int .i64 (m : Int)) := by rw [cells_of k2]; rfl
  have z1 : W2.cell? ⟨w.heap.size + 1, 1, none⟩ = some (.int .i64 (k : Int)) := by rw [cells_of k2]; rfl
  have z2 : W2.cell? ⟨w.heap.size + 1, 2, none⟩ = some (.int .u8 C) := by rw [cells_of k2]; rfl
  unfold stV
  by_cases hr : (m : Int) < leastE what ∨ (k : Int) < (m : Int) ∨ (file.length : Int) < (k : Int)
  · have hdo : doE ns at_ (script.drop (at_ + 1)) file (m : Int) (k : Int) what = .inl (3, P) := by unfold doE; rw [if_pos hr, hP]
    rw [hdo]
    have hF := Lib.hid (hfail.out 3 P)
    obtain ⟨bA, hbA⟩ : ∃ bA, ((what.toNat : Int) == 97) = bA := ⟨_, rfl⟩
    have hle : leastE what = if bA = true then 0 else 1 := by
      have := byte_is (c := what) (n := 97) (by omega)
      rw [show ((97 : Nat) : Int) = 97 from rfl, show UInt8.ofNat 97 = 97 from rfl, hbA] at this
      unfold leastE
      rw [this]
      simp
    rw [hle, hfl] at hr
    rw [hC] at hbA
    have hways : (bA = false ∧ (m : Int) < 1) ∨ (bA = false ∧ ¬ (m : Int) < 1 ∧ (k : Int) < (m : Int)) ∨ (bA = false ∧ ¬ (m : Int) < 1 ∧ ¬ (k : Int) < (m : Int) ∧ (n : Int) < (k : Int)) ∨ (bA = true ∧ (k : Int) < (m : Int)) ∨ (bA = true ∧ ¬ (k : Int) < (m : Int) ∧ (n : Int) < (k : Int)) := by
      cases bA
      · simp only [Bool.false_eq_true, if_false, true_and, false_and, or_false] at hr ⊢
        omega
      · simp only [if_true, true_and, reduceCtorEq, false_and, false_or] at hr ⊢
        omega
    have i0 : ¬ (m : Int) < 0 := by omega
    have hAu2 := hAh
    clear hdo hfail hle hr hC hP hA hS hW2 hb2 hs2z k1 k2 k3 hs hsl hf hfs hat hmb hkb hwh ha97 hAu hSu hfl
    rcases hways with ⟨rfl, y0⟩ | ⟨rfl, y0, y1⟩ | ⟨rfl, y0, y1, y2⟩ | ⟨rfl, y1⟩ | ⟨rfl, y1, y2⟩
    all_goals
      go_enter Tryz.func25, Tryz.ntmps25
      go_upto_region 1 with fail
      rw [← hW2h.out]
      go_wp2_with (go_at_call 24; refine (hF.out _ hb0.out).mono ?_; rintro e w4 ⟨rfl, hb4⟩; have hB4 := Lib.hid hb4; have h52 := hcell.out _ hb4; obtain ⟨⟨r0, r1, r2, r3, r4⟩, f0, f1, f2, f3, f4⟩ := st_cells h52; have h52h := Lib.hid h52; clear h52 hb4 x0 x1 x2 x3 x4)
      exact do_fin (by omega) (hb2h.out.trans (hB4.out.mono hb2h.out.size)) h52h.out rfl (hAh.out.up hB4.out) (fun e w' h => h)
  · have hrange : leastE what ≤ (m : Int) ∧ m ≤ k ∧ k ≤ n := by omega
    have hok : doE ns at_ (script.drop (at_ + 1)) file (m : Int) (k : Int) what = if what = 97 then insE ns at_ m m (script.drop (at_ + 1)) file else if what = 99 then insE ns at_ (m - 1) k (script.drop (at_ + 1)) file else if what = 100 then .inr (layE file (m - 1) k [], false, 0) else if dottedB ((file.take k).drop (m - 1)) = false then .inl (7, P) else .inr (layE file (m - 1) k (stripD ((file.take k).drop (m - 1))), false, 0) := by
      have e1 : ((m : Nat) : Int).toNat = m := by omega
      have e2 : ((k : Nat) : Int).toNat = k := by omega
      have e3 : ((m : Int) - 1).toNat = m - 1 := by omega
      unfold doE partE
      rw [if_neg hr, e1, e2, e3, hP]
    rw [hok]
    have hIns : Hid (∀ (m k : Nat), m ≤ n → k ≤ n → ∃ F5 S5 T5 B5 L5, resE file sv at_ (insE ns at_ m k (script.drop (at_ + 1)) file) = (F5, S5, T5, B5, L5) ∧ Calls Tryz.prog 39 #[.agg #[.slice A n c, .bool sv, .int .i64 (at_ : Int), .int .i64 0, .int .i64 0], .slice As ns cs, .int .i64 (m : Int), .int .i64 (k : Int)] W2 fun e w' => ∃ A5 n5 c5, e = .returned (.agg #[.slice A5 n5 c5, .bool S5, .int .i64 (T5 : Int), .int .i64 (B5 : Int), .int .i64 (L5 : Int)]) ∧ TxR w' w'.heap.size (A5, n5, c5) F5 ∧ Below W2.heap.size W2 w') := Lib.hid (fun m k hm hk => ⟨_, _, _, _, _, rfl, by
      have h := rIns_any A n c sv at_ m k file As ns cs script W2 (by omega) hs hat hm hk hAu hSu
      refine h.mono fun e w' h => ?_
      exact (res_eq W2 w' e file sv at_ _).1 h⟩)
    have hres : Hid (∀ (x : StE) F5 S5 T5 B5 L5, resE file sv at_ x = (F5, S5, T5, B5, L5) → ∀ e w', StOut w w' e F5 S5 T5 B5 L5 → StRes w w' e file sv at_ x) := Lib.hid (fun x F5 S5 T5 B5 L5 hx e w' h => by
      rw [res_eq, hx]
      exact h)
    have h97 : ((C : Int) == 97) = (what == 97) := by rw [← hC]; exact byte_is (c := what) (n := 97) (by omega)
    have h99 : ((C : Int) == 99) = (what == 99) := by rw [← hC]; exact byte_is (c := what) (n := 99) (by omega)
    have h100 : ((C : Int) == 100) = (what == 100) := by rw [← hC]; exact byte_is (c := what) (n := 100) (by omega)
    obtain ⟨hr1, hr2, hr3⟩ := hrange
    have y1 : ¬ (k : Int) < (m : Int) := by omega
    have y2 : ¬ (n : Int) < (k : Int) := by omega
    have hB2w := hb2h
    by_cases hw97 : what = 97
    · obtain rfl : k = m := ha97 hw97
      have b97 : ((C : Int) == 97) = true := by rw [h97, hw97]; rfl
      have y0 : ¬ (k : Int) < 0 := by omega
      rw [if_pos hw97]
      obtain ⟨F5, S5, T5, B5, L5, hx5, hI⟩ := hIns.out k k hr3 hr3
      have hIh := Lib.hid hI
      have hfin := Lib.hid (hres.out _ _ _ _ _ _ hx5)
      clear hok hIns hres h97 h99 h100 hI hx5 hfail hC hP hA hS hW2 hb2 hs2z k1 k2 k3 hs hsl hf hfs hat hmb hkb hwh ha97 hAu hSu hfl hr hr1 hr2 hr3 hw97 e8 e9
      go_enter Tryz.func25, Tryz.ntmps25
      go_upto_region 1 with fail
      rw [← hW2h.out]
      go_wp2_with (go_at_call 39; refine hIh.out.mono ?_; rintro e w4 ⟨A5, n5, c5, rfl, hT5, hb4⟩; have hT5h := Lib.hid hT5; have hB4 := Lib.hid hb4; have h52 := hcell.out _ hb4; obtain ⟨⟨r0, r1, r2, r3, r4⟩, f0, f1, f2, f3, f4⟩ := st_cells h52; have h52h := Lib.hid h52; clear h52 hb4 hT5 x0 x1 x2 x3 x4)
      exact do_fin (by omega) (hb2h.out.trans (hB4.out.mono hb2h.out.size)) h52h.out rfl hT5h.out hfin.out
    · rw [if_neg hw97]
      have b97 : ((C : Int) == 97) = false := by rw [h97, beq_eq_false_iff_ne]; exact hw97
      have hle1 : leastE what = 1 := by unfold leastE; rw [if_neg hw97]
      have hm1 : 1 ≤ m := by omega
      have y0 : ¬ (m : Int) < 1 := by omega
      obtain ⟨Q, hQ⟩ : ∃ Q, m - 1 = Q := ⟨_, rfl⟩
      have g8 : IntKind.i64.wrap (Q : Int) = (Q : Int) := IntWalk.i64_in _ (by omega)
      have g9 : (m : Int) - 1 = (Q : Int) := by omega
      rw [hQ]
      have hLy : Hid (∀ (A3 : Option Addr) (n3 c3 : Nat) (l : Txs) (W : World), l.length ≤ 1000000 → Below W2.heap.size W2 W → TxR W W.heap.size (A3, n3, c3) l → Calls Tryz.prog 40 #[.agg #[.slice A n c, .bool sv, .int .i64 (at_ : Int), .int .i64 0, .int .i64 0], .int .i64 (Q : Int), .int .i64 (k : Int), .slice A3 n3 c3] W fun e w' => ∃ A5 n5 c5, e = .returned (.agg #[.slice A5 n5 c5, .bool false, .int .i64 (at_ : Int), .int .i64 0, .int .i64 0]) ∧ TxR w' w'.heap.size (A5, n5, c5) (layE file Q k l) ∧ Below W2.heap.size W2 w') := Lib.hid (fun A3 n3 c3 l W hl hW hT => by
        have h := rLay_any A n c sv at_ 0 0 Q k file A3 n3 c3 l W (by omega) hl (by omega) hr3 (hAu.up hW) hT
        refine h.mono ?_
        rintro e w' ⟨A5, n5, c5, he, h1, h2⟩
        exact ⟨A5, n5, c5, he, h1, hW.trans (h2.mono hW.size)⟩)
      by_cases hw99 : what = 99
      · have b99 : ((C : Int) == 99) = true := by rw [h99, hw99]; rfl
        rw [if_pos hw99]
        obtain ⟨F5, S5, T5, B5, L5, hx5, hI⟩ := hIns.out Q k (by omega) hr3
        have hIh := Lib.hid hI
        have hfin := Lib.hid (hres.out _ _ _ _ _ _ hx5)
        clear hI hx5 hok hIns hres h97 h99 h100 hfail hC hP hA hS hW2 hb2 hs2z k1 k2 k3 hs hsl hf hfs hat hmb hkb hwh ha97 hAu hSu hfl hr hr1 hr2 hr3 hw97 hQ hw99 hle1 hm1 hLy
        go_enter Tryz.func25, Tryz.ntmps25
        go_upto_region 1 with fail
        rw [← hW2h.out]
        go_wp2_with (go_at_call 39; refine hIh.out.mono ?_; rintro e w4 ⟨A5, n5, c5, rfl, hT5, hb4⟩; have hT5h := Lib.hid hT5; have hB4 := Lib.hid hb4; have h52 := hcell.out _ hb4; obtain ⟨⟨r0, r1, r2, r3, r4⟩, f0, f1, f2, f3, f4⟩ := st_cells h52; have h52h := Lib.hid h52; clear h52 hb4 hT5 x0 x1 x2 x3 x4)
        exact do_fin (by omega) (hb2h.out.trans (hB4.out.mono hb2h.out.size)) h52h.out rfl hT5h.out hfin.out
      · rw [if_neg hw99]
        have b99 : ((C : Int) == 99) = false := by rw [h99, beq_eq_false_iff_ne]; exact hw99
        by_cases hw100 : what = 100
        · have b100 : ((C : Int) == 100) = true := by rw [h100, hw100]; rfl
          rw [if_pos hw100]
          have hIh := Lib.hid (hLy.out none 0 0 [] W2 (Nat.zero_le _) hb0.out (TxR.nil _ _))
          have hfin := Lib.hid (hres.out (.inr (layE file Q k [], false, 0)) _ _ _ _ _ rfl)
          clear hok hIns hres h97 h99 h100 hfail hC hP hA hS hW2 hb2 hs2z k1 k2 k3 hs hsl hf hfs hat hmb hkb hwh ha97 hAu hSu hfl hr hr1 hr2 hr3 hw97 hQ hw99 hw100 hle1 hm1 hLy
          go_enter Tryz.func25, Tryz.ntmps25
          go_upto_region 1 with fail
          rw [← hW2h.out]
          go_wp2_with (go_at_call 40; refine hIh.out.mono ?_; rintro e w4 ⟨A5, n5, c5, rfl, hT5, hb4⟩; have hT5h := Lib.hid hT5; have hB4 := Lib.hid hb4; have h52 := hcell.out _ hb4; obtain ⟨⟨r0, r1, r2, r3, r4⟩, f0, f1, f2, f3, f4⟩ := st_cells h52; have h52h := Lib.hid h52; clear h52 hb4 hT5 x0 x1 x2 x3 x4)
          exact do_fin (by omega) (hb2h.out.trans (hB4.out.mono hb2h.out.size)) h52h.out rfl hT5h.out hfin.out
        · rw [if_neg hw100]
          have b100 : ((C : Int) == 100) = false := by rw [h100, beq_eq_false_iff_ne]; exact hw100
          obtain ⟨A6, m6, q6, hs6, hT6, e6, -⟩ := slice_mid hAu (i := Q) (k := k) (by omega) hr3
          have hpart : (file.drop Q).take (k - Q) = (file.take k).drop Q := by rw [List.drop_take]
          rw [hpart] at hT6
          obtain ⟨part, hpt⟩ : ∃ part, (file.take k).drop Q = part := ⟨_, rfl⟩
          rw [hpt] at hT6 ⊢
          have hpm : ∀ s ∈ part, s ∈ file := fun s h => by rw [← hpt] at h; exact List.mem_of_mem_take (List.mem_of_mem_drop h)
          have hpl : part.length = m6 := hT6.2.2.len
          have hm6 : m6 ≤ 100000 := by omega
          have hsp : smallD part := ⟨by omega, fun s h => hfs s (hpm s h)⟩
          have hDt := Lib.hid (rDotted_any A6 m6 q6 W2.heap.size part W2 hm6 hsp.2 hT6.2.2)
          obtain ⟨db, hdb⟩ : ∃ db, dottedB part = db := ⟨_, rfl⟩
          rw [hdb] at hDt ⊢
          cases db
          · have hF := Lib.hid (hfail.out 7 P)
            rw [if_pos rfl]
            have hfin := Lib.hid (hres.out (.inl (7, P)) _ _ _ _ _ rfl)
            clear hT6 e6 hpart hpt hpm hpl hm6 hsp hdb hok hIns hres h97 h99 h100 hfail hC hP hA hS hW2 hb2 hs2z k1 k2 k3 hs hsl hf hfs hat hmb hkb hwh ha97 hAu hSu hfl hr hr1 hr2 hr3 hw97 hQ hw99 hw100 hle1 hm1 hLy
            go_enter Tryz.func25, Tryz.ntmps25
            go_upto_region 1 with fail
            rw [← hW2h.out]
            go_wp2_with (first
              | (go_at_call 17; refine hDt.out.mono ?_; rintro e w3 ⟨rfl, hww⟩; subst hww)
              | (go_at_call 24; refine (hF.out _ hb0.out).mono ?_; rintro e w4 ⟨rfl, hb4⟩; have hB4 := Lib.hid hb4; have h52 := hcell.out _ hb4; obtain ⟨⟨r0, r1, r2, r3, r4⟩, f0, f1, f2, f3, f4⟩ := st_cells h52; have h52h := Lib.hid h52; clear h52 hb4 x0 x1 x2 x3 x4))
            exact do_fin (by omega) (hb2h.out.trans (hB4.out.mono hb2h.out.size)) h52h.out rfl (hAh.out.up hB4.out) hfin.out
          · rw [if_neg (by decide)]
            have hcell2 : Hid (∀ V, Below W2.heap.size W2 V → V.heap[w.heap.size]? = some (.cells #[.slice A n c, .bool sv, .int .i64 (at_ : Int), .int .i64 0, .int .i64 0] 45 (0, 0)) ∧ V.heap[w.heap.size + 1]? = some (.cells #[.int .i64 (m : Int), .int .i64 (k : Int), .int .u8 C] 47 (0, 0))) := Lib.hid (fun V hV => ⟨(hV.block _ (by omega)).trans k1, (hV.block _ (by omega)).trans k2⟩)
            have hSt : Hid (∀ W, Below W2.heap.size W2 W → Calls Tryz.prog 18 #[.slice A6 m6 q6] W fun e w' => ∃ A7 n7 c7, e = .returned (.slice A7 n7 c7) ∧ TxR w' w'.heap.size (A7, n7, c7) (stripD part) ∧ Below W2.heap.size W2 w') := Lib.hid (fun W hW => by
              refine (rStrip_any A6 m6 q6 part W hsp (hT6.up hW)).mono ?_
              rintro e w' ⟨A7, n7, c7, he, h1, h2⟩
              exact ⟨A7, n7, c7, he, h1, hW.trans (h2.mono hW.size)⟩)
            have hLs := Lib.hid (fun A7 n7 c7 W => hLy.out A7 n7 c7 (stripD part) W (by unfold stripD; rw [List.length_map]; omega))
            have hfin := Lib.hid (hres.out (.inr (layE file Q k (stripD part), false, 0)) _ _ _ _ _ rfl)
            clear hT6 e6 hpart hpt hpm hpl hm6 hsp hdb hok hIns hres h97 h99 h100 hfail hC hP hA hS hW2 hb2 hs2z k1 k2 k3 hs hsl hf hfs hat hmb hkb hwh ha97 hAu hSu hfl hr hr1 hr2 hr3 hw97 hQ hw99 hw100 hle1 hm1 hLy
            go_enter Tryz.func25, Tryz.ntmps25
            go_upto_region 1 with fail
            rw [← hW2h.out]
            go_upto_region 16 with (go_at_call 17; refine hDt.out.mono ?_; rintro e w3 ⟨rfl, hww⟩; subst hww)
            go_region_with (first
              | (go_at_call 18; refine (hSt.out _ ?_).mono ?_; (repeat (first | exact hb0.out | refine below_drew ?_ | refine below_drewN ?_ _)); rintro e w4 ⟨A7, n7, c7, rfl, hT7, hb4⟩; have hB4 := Lib.hid hb4; have hT7h := Lib.hid hT7; obtain ⟨h51, h53⟩ := hcell2.out _ hb4; obtain ⟨⟨u0, u1, u2, u3, u4⟩, -⟩ := st_cells h51; have v0 : w4.cell? ⟨w.heap.size + 1, 0, none⟩ = some (.int .i64 (m : Int)) := (by rw [cells_of h53]; rfl); have v1 : w4.cell? ⟨w.heap.size + 1, 1, none⟩ = some (.int .i64 (k : Int)) := (by rw [cells_of h53]; rfl); clear h51 h53 hb4 hT7)
              | (go_at_call 40; refine (hLs.out _ _ _ _ hB4.out hT7h.out).mono ?_; rintro e w5 ⟨A5, n5, c5, rfl, hT5, hb5⟩; have hT5h := Lib.hid hT5; have hB5 := Lib.hid hb5; have h52 := hcell.out _ hb5; obtain ⟨⟨r0, r1, r2, r3, r4⟩, f0, f1, f2, f3, f4⟩ := st_cells h52; have h52h := Lib.hid h52; clear h52 hb5 hT5))
            all_goals (go_wp2; exact do_fin (by omega) (hb2h.out.trans (hB5.out.mono hb2h.out.size)) h52h.out rfl hT5h.out hfin.out)
end Go.Proofs.YtdfpifipkchmnaaGreatDoor
