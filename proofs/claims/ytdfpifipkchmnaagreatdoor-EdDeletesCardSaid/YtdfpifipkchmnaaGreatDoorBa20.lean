/- Proved here: texts joined: EdIns. -/
import Derived.Test.YtdfpifipkchmnaaGreatDoorBa17
import Derived.Test.YtdfpifipkchmnaaGreatDoorBa18
import Derived.Test.YtdfpifipkchmnaaGreatDoorBa19
/- Proved here: the contract of the document's own answer of layer 17: insert. -/
namespace Go.Proofs.YtdfpifipkchmnaaGreatDoor
open Go.RowKit
set_option linter.unusedVariables false
set_option maxRecDepth 100000

theorem unblock_len : ∀ {l acc : Txs} {i : Nat}, (unblockD acc i l).1.length ≤ acc.length + l.length
  | [], acc, i => by simp [unblockD]
  | t :: l, acc, i => by
    unfold unblockD
    split
    · simp
    · have := unblock_len (l := l) (acc := acc ++ [t]) (i := i + 1)
      rw [List.length_append, List.length_singleton] at this
      rw [List.length_cons]
      omega
/-- What a command makes of a state. -/
def StRes (w w' : World) (e : Ending) (file : Txs) (sv : Bool) (at_ : Nat) (x : StE) : Prop := match x with
  | .inl y => StOut w w' e file sv at_ y.1 y.2
  | .inr y => StOut w w' e y.1 y.2.1 (at_ + y.2.2) 0 0
theorem ins_end {V : World} {R : Nat} {tmps : Array Value} {a0 a1 a2 a3 a4 : Value} {Q : Ending → World → Prop} (h2 : tmps[8]? = some (.pointer (some ⟨R, 0, none⟩))) (hh : V.heap[R]? = some (.cells #[a0, a1, a2, a3, a4] 45 (0, 0))) (hQ : Q (.returned (.agg #[a0, a1, a2, a3, a4])) V) : bodyPost Tryz.prog Tryz.f39 Q Exit.ret { tmps := tmps, defers := [] } V := by
  obtain ⟨⟨y0, y1, y2, y3, y4⟩, -⟩ := st_cells hh
  refine bodyPost_ret (v := .agg #[a0, a1, a2, a3, a4]) (by simp [results, Tryz.results39, go_sem, h2, y0, y1, y2, y3, y4]) rfl hQ

set_option maxHeartbeats 8000000 in
theorem rIns_any (A : Option Addr) (n c : Nat) (sv : Bool) (at_ m k : Nat) (file : Txs) (As : Option Addr) (ns cs : Nat) (script : Txs) (w : World) (hf : file.length ≤ 1000000) (hs : smallD script) (hat : at_ < ns) (hm : m ≤ n) (hk : k ≤ n) (hA : TxR w w.heap.size (A, n, c) file) (hS : TxR w w.heap.size (As, ns, cs) script) :
    Calls Tryz.prog 39 #[stV A n c sv at_ 0 0, .slice As ns cs, .int .i64 (m : Int), .int .i64 (k : Int)] w fun e w' => StRes w w' e file sv at_ (insE ns at_ m k (script.drop (at_ + 1)) file) := by
  have hfl : file.length = n := hA.2.2.len
  have hsl : script.length = ns := hS.2.2.len
  obtain ⟨A1, m1, q1, hs1, hT1, e1⟩ := slice_from (k := at_ + 1) hS (by omega)
  have hsd : smallD (script.drop (at_ + 1)) := ⟨by have := hs.1; rw [List.length_drop]; omega, fun s h => hs.2 s (List.mem_of_mem_drop h)⟩
  obtain ⟨W2, hW2⟩ : ∃ W2, W2 = (w.alloc (.cells #[.slice A n c, .bool sv, .int .i64 (at_ : Int), .int .i64 0, .int .i64 0] 45)).alloc (.cells #[.slice none 0 0, .bool false, .int .i64 0, .int .i64 0, .int .i64 0] 45) := ⟨_, rfl⟩
  obtain ⟨k1, k2⟩ := two_a w (.cells #[.slice A n c, .bool sv, .int .i64 (at_ : Int), .int .i64 0, .int .i64 0] 45) (.cells #[.slice none 0 0, .bool false, .int .i64 0, .int .i64 0, .int .i64 0] 45)
  have hb2 : Below w.heap.size w W2 := by rw [hW2]; exact below_alloc (below_alloc (Below.refl _ _) _) _
  rw [← hW2] at k1 k2
  have hs2z : W2.heap.size = w.heap.size + 1 + 1 := by rw [hW2, push_size, push_size]
  have hcell : Hid (∀ V, Below W2.heap.size W2 V → V.heap[w.heap.size]? = some (.cells #[.slice A n c, .bool sv, .int .i64 (at_ : Int), .int .i64 0, .int .i64 0] 45 (0, 0)) ∧ V.heap[w.heap.size + 1]? = some (.cells #[.slice none 0 0, .bool false, .int .i64 0, .int .i64 0, .int .i64 0] 45 (0, 0))) := Lib.hid (fun V hV => ⟨(hV.block _ (by omega)).trans k1, (hV.block _ (by omega)).trans k2⟩)
  have hU : Hid (Calls Tryz.prog 56 #[.slice A1 m1 q1] W2 fun e w' => TxsN W2 w' e (unblockD [] 0 (script.drop (at_ + 1)))) := Lib.hid (rUnblock_any A1 m1 q1 _ W2 hsd (hT1.up hb2))
  have hub := unblock_le (l := script.drop (at_ + 1)) (acc := []) (i := 0)
  obtain ⟨UL, UK, hUU⟩ : ∃ UL UK, unblockD [] 0 (script.drop (at_ + 1)) = (UL, UK) := ⟨_, _, rfl⟩
  rw [hUU] at hU hub
  have hUm : ∀ s ∈ UL, s.length ≤ 1000000 := fun s h => by
    rcases hub.2 s h with h | h
    · cases h
    · exact hsd.2 s h
  have hUlen : UL.length ≤ ns := by
    have h := unblock_len (l := script.drop (at_ + 1)) (acc := []) (i := 0)
    rw [hUU, List.length_drop] at h
    simp at h
    omega
  have hUk : UK ≤ ns := by have := hub.1; rw [List.length_drop] at this; omega
  have hins : insE ns at_ m k (script.drop (at_ + 1)) file = if UK = 0 then .inl (2, ns + 1) else if mayB UL = false ∨ openB UL = true then .inl (2, at_ + 1) else .inr (layE file m k UL, false, UK) := by
    unfold insE
    rw [hUU]
  have hW2h := Lib.hid hW2
  have hb2h := Lib.hid hb2
  have hs2h := Lib.hid hs2z
  have hAh := Lib.hid hA
  have hnb : ns ≤ 100000 := by have := hs.1; omega
  have hfail : Hid (∀ (b l : Nat) (W : World), Below W2.heap.size W2 W → Calls Tryz.prog 24 #[.agg #[.slice A n c, .bool sv, .int .i64 (at_ : Int), .int .i64 0, .int .i64 0], .int .i64 (b : Int), .int .i64 (l : Int)] W fun e w' => e = .returned (.agg #[.slice A n c, .bool sv, .int .i64 (at_ : Int), .int .i64 (b : Int), .int .i64 (l : Int)]) ∧ Below W2.heap.size W2 w') := Lib.hid (fun b l W hW => (rFail_any A n c sv at_ 0 0 b l W).mono fun e w' h => ⟨h.1, hW.trans (h.2.mono hW.size)⟩)
  obtain ⟨⟨x0, x1, x2, x3, x4⟩, -⟩ := st_cells k1
  unfold stV
  obtain ⟨P, hP⟩ : ∃ P, at_ + 1 = P := ⟨_, rfl⟩
  have e8 : IntKind.i64.wrap (P : Int) = (P : Int) := IntWalk.i64_in _ (by omega)
  have e9 : (at_ : Int) + 1 = (P : Int) := by omega
  rw [hins]
  rw [hP] at hs1 ⊢
  clear hP hA hS hW2 hb2 hs2z k1 k2 hs hUU hub hins hT1 hsd hsl hfl
  by_cases hu0 : UK = 0
  · subst hu0
    have hF := Lib.hid (hfail.out 2 (ns + 1))
    have e5 : (ns : Int) + 1 = ((ns + 1 : Nat) : Int) := by omega
    have e6 : IntKind.i64.wrap ((ns + 1 : Nat) : Int) = ((ns + 1 : Nat) : Int) := IntWalk.i64_in _ (by omega)
    obtain ⟨N1, hN1⟩ : ∃ N1, ns + 1 = N1 := ⟨_, rfl⟩
    rw [hN1] at hF e5 e6
    rw [if_pos rfl, hN1]
    clear hfail hN1
    go_enter Tryz.func39, Tryz.ntmps39
    go_upto_region 1 with fail
    rw [← hW2h.out]
    go_wp2_with (first
      | (go_at_call 56; refine hU.out.mono ?_; rintro e w3 ⟨A3, n3, c3, rfl, hT3, hb3⟩; have hB3 := Lib.hid hb3; obtain ⟨⟨u0, u1, u2, u3, u4⟩, -⟩ := st_cells (hcell.out _ hb3).1; clear hb3 x0 x1 x2 x3 x4)
      | (go_at_call 24; refine (hF.out _ hB3.out).mono ?_; rintro e w4 ⟨rfl, hb4⟩; have hB4 := Lib.hid hb4; obtain ⟨-, h52⟩ := hcell.out _ hb4; obtain ⟨⟨r0, r1, r2, r3, r4⟩, f0, f1, f2, f3, f4⟩ := st_cells h52; have h52h := Lib.hid h52; clear h52 hb4 u0 u1 u2 u3 u4))
    have hB4w := hb2h.out.trans (hB4.out.mono hb2h.out.size)
    have hB5 := setS_below (.slice A n c) (.bool sv) (.int .i64 (at_ : Int)) (.int .i64 2) (.int .i64 (N1 : Int)) hB4w (Nat.le_succ w.heap.size)
    refine ins_end rfl (setS_at (.slice A n c) (.bool sv) (.int .i64 (at_ : Int)) (.int .i64 2) (.int .i64 (N1 : Int)) h52h.out) ?_
    exact ⟨A, n, c, rfl, hAh.out.up hB5, hB5⟩
  · rw [if_neg hu0]
    have t0 : ((UK : Int) == 0) = false := by rw [beq_eq_false_iff_ne]; omega
    have hUl : UL.length ≤ 1000000 := by
      have := hUlen
      omega
    have hM : Hid (∀ (A3 : Option Addr) (n3 c3 : Nat) (W : World), TxR W W.heap.size (A3, n3, c3) UL → Calls Tryz.prog 12 #[.slice A3 n3 c3] W fun e w' => e = .returned (.bool (mayB UL)) ∧ W = w') := Lib.hid (fun A3 n3 c3 W hT => rMayB_any A3 n3 c3 W.heap.size UL W (Nat.le_trans hT.1 hT.2.1) (fun s h => by have := hUm s h; unfold maxLen; omega) hT.2.2)
    have hO : Hid (∀ (A3 : Option Addr) (n3 c3 : Nat) (W : World), TxR W W.heap.size (A3, n3, c3) UL → Calls Tryz.prog 13 #[.slice A3 n3 c3] W fun e w' => e = .returned (.bool (openB UL)) ∧ W = w') := Lib.hid (fun A3 n3 c3 W hT => rOpen_any A3 n3 c3 W.heap.size UL W (Nat.le_trans hT.1 hT.2.1) (fun s h => by have := hUm s h; unfold maxLen; omega) hT.2.2)
    have hLy : Hid (∀ (A3 : Option Addr) (n3 c3 : Nat) (W : World), Below W2.heap.size W2 W → TxR W W.heap.size (A3, n3, c3) UL → Calls Tryz.prog 40 #[.agg #[.slice A n c, .bool sv, .int .i64 (at_ : Int), .int .i64 0, .int .i64 0], .int .i64 (m : Int), .int .i64 (k : Int), .slice A3 n3 c3] W fun e w' => ∃ A5 n5 c5, e = .returned (.agg #[.slice A5 n5 c5, .bool false, .int .i64 (at_ : Int), .int .i64 0, .int .i64 0]) ∧ TxR w' w'.heap.size (A5, n5, c5) (layE file m k UL) ∧ Below W2.heap.size W2 w') := Lib.hid (fun A3 n3 c3 W hW hT => by
      have h := rLay_any A n c sv at_ 0 0 m k file A3 n3 c3 UL W hf hUl hm hk (hAh.out.up (hb2h.out.trans (hW.mono hb2h.out.size))) hT
      refine h.mono ?_
      rintro e w' ⟨A5, n5, c5, he, h1, h2⟩
      exact ⟨A5, n5, c5, he, h1, hW.trans (h2.mono hW.size)⟩)
    obtain ⟨mb, hmb⟩ : ∃ mb, mayB UL = mb := ⟨_, rfl⟩
    obtain ⟨ob, hob⟩ : ∃ ob, openB UL = ob := ⟨_, rfl⟩
    rw [hmb] at hM
    rw [hob] at hO
    have hF := Lib.hid (hfail.out 2 P)
    have q1 : IntKind.i64.wrap ((at_ : Int) + (UK : Int)) = ((at_ + UK : Nat) : Int) := IntWalk.i64_in _ (by omega)
    obtain ⟨Q, hQ⟩ : ∃ Q, at_ + UK = Q := ⟨_, rfl⟩
    have q2 : (at_ : Int) + (UK : Int) = (Q : Int) := by omega
    have q3 : IntKind.i64.wrap (Q : Int) = (Q : Int) := IntWalk.i64_in _ (by omega)
    clear q1
    by_cases hbad : mb = false ∨ ob = true
    · rw [if_pos (by rw [hmb, hob]; exact hbad)]
      clear hmb hob hLy hfail hu0 hUl hf hUm hUk hUlen hnb hat hm hk hQ
      have hways : (mb = false) ∨ (mb = true ∧ ob = true) := by cases mb <;> simp_all
      clear hbad
      rcases hways with rfl | ⟨rfl, rfl⟩
      all_goals
        go_enter Tryz.func39, Tryz.ntmps39
        go_upto_region 1 with fail
        rw [← hW2h.out]
        go_wp2_with (first
          | (go_at_call 56; refine hU.out.mono ?_; rintro e w3 ⟨A3, n3, c3, rfl, hT3, hb3⟩; have hB3 := Lib.hid hb3; have hT3h := Lib.hid hT3; obtain ⟨⟨u0, u1, u2, u3, u4⟩, -⟩ := st_cells (hcell.out _ hb3).1; clear hb3 hT3 x0 x1 x2 x3 x4)
          | (go_at_call 12; refine (hM.out _ _ _ _ hT3h.out).mono ?_; rintro e w6 ⟨rfl, hww⟩; subst hww)
          | (go_at_call 13; refine (hO.out _ _ _ _ hT3h.out).mono ?_; rintro e w6 ⟨rfl, hww⟩; subst hww)
          | (go_at_call 24; refine (hF.out _ hB3.out).mono ?_; rintro e w4 ⟨rfl, hb4⟩; have hB4 := Lib.hid hb4; obtain ⟨-, h52⟩ := hcell.out _ hb4; obtain ⟨⟨r0, r1, r2, r3, r4⟩, f0, f1, f2, f3, f4⟩ := st_cells h52; have h52h := Lib.hid h52; clear h52 hb4 u0 u1 u2 u3 u4))
        have hB4w := hb2h.out.trans (hB4.out.mono hb2h.out.size)
        have hB5 := setS_below (.slice A n c) (.bool sv) (.int .i64 (at_ : Int)) (.int .i64 2) (.int .i64 (P : Int)) hB4w (Nat.le_succ w.heap.size)
        refine ins_end rfl (setS_at (.slice A n c) (.bool sv) (.int .i64 (at_ : Int)) (.int .i64 2) (.int .i64 (P : Int)) h52h.out) ?_
        exact ⟨A, n, c, rfl, hAh.out.up hB5, hB5⟩
    · rw [if_neg (by rw [hmb, hob]; exact hbad)]
      have hg : mb = true ∧ ob = false := by cases mb <;> cases ob <;> simp_all
      obtain ⟨rfl, rfl⟩ := hg
      have hQh := Lib.hid hQ
      clear hmb hob hF hfail hu0 hUl hf hUm hUk hUlen hnb hat hm hk hQ hbad
      go_enter Tryz.func39, Tryz.ntmps39
      go_upto_region 1 with fail
      rw [← hW2h.out]
      go_upto_region 6 with (first
        | (go_at_call 56; refine hU.out.mono ?_; rintro e w3 ⟨A3, n3, c3, rfl, hT3, hb3⟩; have hB3 := Lib.hid hb3; have hT3h := Lib.hid hT3; obtain ⟨⟨u0, u1, u2, u3, u4⟩, -⟩ := st_cells (hcell.out _ hb3).1; clear hb3 hT3 x0 x1 x2 x3 x4)
        | (go_at_call 12; refine (hM.out _ _ _ _ hT3h.out).mono ?_; rintro e w6 ⟨rfl, hww⟩; subst hww)
        | (go_at_call 13; refine (hO.out _ _ _ _ hT3h.out).mono ?_; rintro e w6 ⟨rfl, hww⟩; subst hww))
      go_upto_region 7 with (go_at_call 40; refine (hLy.out _ _ _ _ hB3.out hT3h.out).mono ?_; rintro e w4 ⟨A5, n5, c5, rfl, hT5, hb4⟩; have hT5h := Lib.hid hT5; have hB4 := Lib.hid hb4; obtain ⟨h51, h52⟩ := hcell.out _ hb4; obtain ⟨⟨c0, c1, c2, c3, c4⟩, d0, d1, d2, d3, d4⟩ := st_cells h51; obtain ⟨⟨r0, r1, r2, r3, r4⟩, f0, f1, f2, f3, f4⟩ := st_cells h52; have h51h := Lib.hid h51; have h52h := Lib.hid h52; clear h51 h52 hb4 hT5 u0 u1 u2 u3 u4)
      have g1 : w.heap.size + 1 ≠ w.heap.size := by omega
      have hB4w := hb2h.out.trans (hB4.out.mono hb2h.out.size)
      have hB6 := Lib.hid (setS_below (.slice A5 n5 c5) (.bool false) (.int .i64 (at_ : Int)) (.int .i64 0) (.int .i64 0) hB4w (Nat.le_refl w.heap.size))
      have hV51 := setS_at (.slice A5 n5 c5) (.bool false) (.int .i64 (at_ : Int)) (.int .i64 0) (.int .i64 0) h51h.out
      have hV52 := setS_keep (.slice A5 n5 c5) (.bool false) (.int .i64 (at_ : Int)) (.int .i64 0) (.int .i64 0) g1 h52h.out
      have hbt0 := Lib.hid (setS_but w4 w.heap.size (.slice A5 n5 c5) (.bool false) (.int .i64 (at_ : Int)) (.int .i64 0) (.int .i64 0))
      obtain ⟨V4, hV4⟩ : ∃ V4, V4 = setS w4 w.heap.size (.slice A5 n5 c5) (.bool false) (.int .i64 (at_ : Int)) (.int .i64 0) (.int .i64 0) := ⟨_, rfl⟩
      rw [← hV4] at hV51 hV52 hB6 hbt0
      change Code.wp Tryz.prog _ _ _ (setS w4 w.heap.size (.slice A5 n5 c5) (.bool false) (.int .i64 (at_ : Int)) (.int .i64 0) (.int .i64 0))
      rw [← hV4]
      clear hV4 c0 c1 c2 c3 c4 d0 d1 d2 d3 d4 r0 r1 r2 r3 r4 f0 f1 f2 f3 f4
      obtain ⟨⟨c0, c1, c2, c3, c4⟩, d0, d1, d2, d3, d4⟩ := st_cells hV51
      obtain ⟨⟨r0, r1, r2, r3, r4⟩, f0, f1, f2, f3, f4⟩ := st_cells hV52
      have hV51h := Lib.hid hV51
      have hV52h := Lib.hid hV52
      clear hV51 hV52 hB4w
      go_wp2
      have hB7 := hB6.out.setCell (p := ⟨w.heap.size, 2, none⟩) (Nat.le_refl _) (.int .i64 (Q : Int))
      have hB8 := setS_below (.slice A5 n5 c5) (.bool false) (.int .i64 (Q : Int)) (.int .i64 0) (.int .i64 0) hB7 (Nat.le_succ w.heap.size)
      refine ins_end rfl (setS_at (.slice A5 n5 c5) (.bool false) (.int .i64 (Q : Int)) (.int .i64 0) (.int .i64 0) (set_keep 2 (.int .i64 (Q : Int)) g1 hV52h.out)) ?_
      refine ⟨A5, n5, c5, by rw [hQh.out]; rfl, ?_, hB8⟩
      have hbt : But (fun k => k = w.heap.size ∨ k = w.heap.size + 1) w4 _ := (((hbt0.out.trans (set_but _ w.heap.size 2 (.int .i64 (Q : Int))) fun k h => .inl h).more fun k h => (.inl h : k = w.heap.size ∨ k = w.heap.size + 1)).trans (setS_but _ (w.heap.size + 1) (.slice A5 n5 c5) (.bool false) (.int .i64 (Q : Int)) (.int .i64 0) (.int .i64 0)) fun k h => .inl (.inr h))
      refine TxR.but hT5h.out hbt ?_
      rintro hn q o hA5 (rfl | rfl)
      · exact not_state hT5h.out h51h.out hn hA5 rfl
      · exact not_state hT5h.out h52h.out hn hA5 rfl
end Go.Proofs.YtdfpifipkchmnaaGreatDoor
