/- Proved here: texts joined: ScrLawC, ScrSm, ScrLawD, ScrCl. -/
import Derived.Test.YtoopdgohdeddoaaGreatDoorBs10
import Derived.Test.YtoopdgohdeddoaaGreatDoorBs11
import Derived.Test.YtoopdgohdeddoaaGreatDoorBs19
import Derived.Test.YtoopdgohdeddoaaGreatDoorBs23
import Derived.Test.YtoopdgohdeddoaaGreatDoorBs42
import Derived.RegionTactic
import Derived.Deep.RegionHeld3
/- Proved here: what the statement ScriptNothing says, by the contract of package script. -/
namespace Go.Proofs.YtoopdgohdeddoaaGreatDoor
open Go.RowKit
set_option linter.unusedVariables false
set_option maxRecDepth 100000

section
variable (H : ScriptOk)
include H

set_option maxHeartbeats 8000000 in
theorem ScriptNothing_walk (y : Nat) (A0 : Option Addr) (n0 c0 : Nat) (a : Txs) (A1 : Option Addr) (n1 c1 : Nat) (b : Txs) (w : World) (hy : y ≤ 255)
    (h0 : TxR w w.heap.size (A0, n0, c0) a) (h1 : TxR w w.heap.size (A1, n1, c1) b) :
    Calls Tryz.prog 4 #[.int .u8 (y : Int), .slice A0 n0 c0, .slice A1 n1 c1] w fun e w' => e = .returned (.bool true) ∧ Below w.heap.size w w' := by
  have haw := Lib.hid (scrAwake_any H w)
  obtain ⟨F, hF⟩ : ∃ F, fewS a b b = F := ⟨_, rfl⟩
  have hFw := Lib.hid (fun (W : World) (hW : Below w.heap.size w W) => rsFew_any A0 n0 c0 a A1 n1 c1 b A1 n1 c1 b W (h0.up hW) (h1.up hW) (h1.up hW))
  rw [hF] at hFw
  have hT0 := Lib.hid (fun (W : World) (hW : Below w.heap.size w W) => h0.up hW)
  have hT1 := Lib.hid (fun (W : World) (hW : Below w.heap.size w W) => h1.up hW)
  obtain ⟨P, hP⟩ : ∃ P : Nat, y % 7 = P := ⟨_, rfl⟩
  have hPt : ((y : Int)).tmod 7 = (P : Int) := by rw [← hP]; exact Int.ofNat_tmod y 7 ▸ rfl
  have hP7 : P ≤ 6 := by omega
  have hfl := Lib.hid (fun W : World => flag_any y W hy)
  cases F
  · clear h0 h1 hF hP
    go_enter Tryz.func4, Tryz.ntmps4
    go_upto_region 3 with (first
      | (go_at_call 8; refine haw.out.mono ?_; rintro e x1 ⟨rfl, hb⟩; have hB1 := Lib.hid hb; clear hb))
    have hB2 := Lib.hid (below_alloc hB1.out (.cells #[.slice A0 n0 c0, .slice A1 n1 c1, .slice A1 n1 c1] 23))
    go_wp2_with (first
      | (go_at_call 14; refine (hFw.out _ hB2.out).mono ?_; rintro e x2 ⟨rfl, hb2⟩; have hB3 := Lib.hid (hB2.out.trans (hb2.mono hB2.out.size)); clear hb2))
    go_ret
    exact ⟨rfl, hB3.out⟩
  obtain ⟨sa, sb, -, hw⟩ := fewS_is hF
  obtain ⟨om, hom⟩ : ∃ p, openB a = p := ⟨_, rfl⟩
  obtain ⟨ob, hob⟩ : ∃ p, openB b = p := ⟨_, rfl⟩
  have hOm := Lib.hid (fun (W : World) (hW : Below w.heap.size w W) => hom ▸ rOpen_any A0 n0 c0 W.heap.size a W (Nat.le_trans h0.1 h0.2.1) (fun s hs => Nat.le_trans (sa.2 s hs) (by decide)) (h0.up hW).2.2)
  have hOb := Lib.hid (fun (W : World) (hW : Below w.heap.size w W) => hob ▸ rOpen_any A1 n1 c1 W.heap.size b W (Nat.le_trans h1.1 h1.2.1) (fun s hs => Nat.le_trans (sb.2 s hs) (by decide)) (h1.up hW).2.2)
  by_cases hgo : om = false ∧ ob = false ∧ P ≠ 6
  rotate_left
  · clear h0 h1 hF hP sa sb hw hom hob
    rcases (by revert hgo; cases om <;> cases ob <;> simp : om = true ∨ (om = false ∧ ob = true) ∨ (om = false ∧ ob = false ∧ P = 6)) with rfl | ⟨rfl, rfl⟩ | ⟨rfl, rfl, rfl⟩
    all_goals
      clear hgo
      go_enter Tryz.func4, Tryz.ntmps4
      go_upto_region 3 with (first
        | (go_at_call 8; refine haw.out.mono ?_; rintro e x1 ⟨rfl, hb⟩; have hB1 := Lib.hid hb; clear hb))
      have hB2 := Lib.hid (below_alloc hB1.out (.cells #[.slice A0 n0 c0, .slice A1 n1 c1, .slice A1 n1 c1] 23))
      go_wp2_with (first
        | (go_at_call 14; refine (hFw.out _ hB2.out).mono ?_; rintro e x2 ⟨rfl, hb2⟩; have hB3 := Lib.hid (hB2.out.trans (hb2.mono hB2.out.size)); clear hb2)
        | (go_at_call 15; refine (hOm.out _ hB3.out).mono ?_; rintro e w4 ⟨rfl, hww⟩; subst hww; clear hOm)
        | (go_at_call 15; refine (hOb.out _ hB3.out).mono ?_; rintro e w4 ⟨rfl, hww⟩; subst hww; clear hOb))
      go_ret
      exact ⟨rfl, hB3.out⟩
  obtain ⟨rfl, rfl, hP6⟩ := hgo
  have hk : knownB (flagC y) = true := by rw [flag_known, hP]; simpa using hP6
  have hw2 : wrongN b [a, a] = 0 := by
    obtain ⟨-, -, m1, m2, m3, m4⟩ := wrong_none hw
    exact wrong_zero (by simp) (by simp) m1 (fun d hd => m2 d (by simp at hd; simp [hd])) m3 (fun d hd => m4 d (by simp at hd; simp [hd]))
  have e1 : errS (flagC y) a b b = 0 := by
    unfold errS
    rw [if_neg (by rw [hk]; decide), if_neg (by rw [hw]; simp), hom, hob]
    rfl
  have e2 : errS (flagC y) a b a = 0 := by
    unfold errS
    rw [if_neg (by rw [hk]; decide), if_neg (by rw [hw2]; simp), hom, hob]
    rfl
  have hS1 : Hid (∀ (fin : Bool) (W : World), Below w.heap.size w W → Calls Tryz.prog 10 #[.int .u8 ((flagC y).toNat : Int), .slice A0 n0 c0, .slice A1 n1 c1, .slice A1 n1 c1, .bool fin] W fun e w' => ∃ A n k, e = .returned (.tuple #[.slice A n k, .int .i64 0]) ∧ TxR w' w'.heap.size (A, n, k) (tailS fin) ∧ Below W.heap.size W w') := Lib.hid (fun fin W hW => (H (flagC y) A0 n0 c0 a A1 n1 c1 b A1 n1 c1 b fin W sa sb sb (h0.up hW) (h1.up hW) (h1.up hW)).mono (by
    rintro e w' ⟨A, n, k, er, x, rfl, p, q, r⟩
    have e0 := q.1.trans e1
    subst e0
    rw [script_older q rfl] at p
    exact ⟨A, n, k, rfl, p, r⟩))
  have hS2 : Hid (∀ (W : World), Below w.heap.size w W → Calls Tryz.prog 10 #[.int .u8 ((flagC y).toNat : Int), .slice A0 n0 c0, .slice A1 n1 c1, .slice A0 n0 c0, .bool false] W fun e w' => ∃ A n k, e = .returned (.tuple #[.slice A n k, .int .i64 0]) ∧ TxR w' w'.heap.size (A, n, k) (tailS false) ∧ Below W.heap.size W w') := Lib.hid (fun W hW => (H (flagC y) A0 n0 c0 a A1 n1 c1 b A0 n0 c0 a false W sa sb sa (h0.up hW) (h1.up hW) (h0.up hW)).mono (by
    rintro e w' ⟨A, n, k, er, x, rfl, p, q, r⟩
    have e0 := q.1.trans e2
    subst e0
    rw [script_mine q rfl] at p
    exact ⟨A, n, k, rfl, p, r⟩))
  have hSf := Lib.hid (fun (W : World) (hW : Below w.heap.size w W) => hS1.out false W hW)
  have hSt := Lib.hid (fun (W : World) (hW : Below w.heap.size w W) => hS1.out true W hW)
  have hSm := Lib.hid same_S
  have hPn : ((P : Int) == 6) = false := by rw [beq_eq_false_iff_ne]; omega
  clear h0 h1 hF hP sa sb hw hw2 hom hob hk e1 e2 hS1 H hP6
  go_enter Tryz.func4, Tryz.ntmps4
  go_upto_region 3 with (first
    | (go_at_call 8; refine haw.out.mono ?_; rintro e x1 ⟨rfl, hb⟩; have hB1 := Lib.hid hb; clear hb))
  have hB2 := Lib.hid (below_alloc hB1.out (.cells #[.slice A0 n0 c0, .slice A1 n1 c1, .slice A1 n1 c1] 23))
  go_upto_region 8 with (first
    | (go_at_call 14; refine (hFw.out _ hB2.out).mono ?_; rintro e x2 ⟨rfl, hb2⟩; have hB3 := Lib.hid (hB2.out.trans (hb2.mono hB2.out.size)); clear hb2)
    | (go_at_call 15; refine (hOm.out _ hB3.out).mono ?_; rintro e w4 ⟨rfl, hww⟩; subst hww; clear hOm)
    | (go_at_call 15; refine (hOb.out _ hB3.out).mono ?_; rintro e w4 ⟨rfl, hww⟩; subst hww; clear hOb)
    | (go_at_call 11; refine (hfl.out _).mono ?_; rintro e w4 ⟨rfl, hww⟩; have hws := hww.symm; clear hww; subst hws)
    | (go_at_call 10; refine (hSf.out _ hB3.out).mono ?_; rintro e x4 ⟨A4, n4, c4, rfl, p4, hb4⟩; have hB4 := Lib.hid (hB3.out.trans (hb4.mono hB3.out.size)); have m4 : 0 = n4 := p4.2.2.len; subst m4; clear hb4 p4 hSf)
    | (go_at_call 10; refine (hS2.out _ hB4.out).mono ?_; rintro e x5 ⟨A5, n5, c5, rfl, p5, hb5⟩; have hB5 := Lib.hid (hB4.out.trans (hb5.mono hB4.out.size)); have m5 : 0 = n5 := p5.2.2.len; subst m5; clear hb5 p5 hS2)
    | (go_at_call 10; refine (hSt.out _ hB5.out).mono ?_; rintro e x6 ⟨A6, n6, c6, rfl, p6, hb6⟩; have hB6 := Lib.hid (hB5.out.trans (hb6.mono hB5.out.size)); have hP6 := Lib.hid p6; clear hb6 p6 hSt))
  have hB7 := Lib.hid (below_alloc hB6.out (.cells #[.string ⟨#[119, 10]⟩, .string ⟨#[113, 10]⟩] 9))
  have hP7 := Lib.hid (hP6.out.up (below_alloc (Below.refl _ _) (.cells #[.string ⟨#[119, 10]⟩, .string ⟨#[113, 10]⟩] 9)))
  have hPl : Hid (TxR (x6.alloc (.cells #[.string ⟨#[119, 10]⟩, .string ⟨#[113, 10]⟩] 9)) (x6.alloc (.cells #[.string ⟨#[119, 10]⟩, .string ⟨#[113, 10]⟩] 9)).heap.size (some ⟨x6.heap.size, 0, none⟩, 2, 2) (tailS true)) := Lib.hid (txr_of (one_a x6 _) rfl rfl (by decide))
  go_wp2_with (go_at_call 13; refine (hSm.out _ _ _ _ _ _ _ _ hP7.out hPl.out).mono ?_; rintro e w7 ⟨rfl, q7⟩; have hB8 := Lib.hid (hB7.out.trans (q7.mono hB7.out.size)); clear q7)
  go_ret
  exact ⟨rfl, hB8.out⟩
end
end Go.Proofs.YtoopdgohdeddoaaGreatDoor
/- Proved here, without conditions: the editor's commands aren't long. -/
namespace Go.Proofs.YtoopdgohdeddoaaGreatDoor
set_option linter.unusedVariables false

theorem fig_ln (n : Nat) : (figD n).length ≤ n + 1 := by
  induction n using Nat.strongRecOn with
  | _ n ih =>
    unfold figD
    by_cases h : n < 10
    · rw [if_pos h]; simp
    · have := ih (n / 10) (by omega)
      rw [if_neg h, List.length_append, List.length_singleton]
      omega
theorem lin_ln (m n : Nat) : (linesD m n).length ≤ m + n + 3 := by
  have h1 := fig_ln m
  have h2 := fig_ln n
  unfold linesD
  split
  · omega
  · rw [List.length_append, List.length_cons]; omega
theorem over_sm {l : Txs} {k M : Nat} (hl : ∀ t ∈ l, t.length ≤ M) (hM : 2 * k + l.length + 20 ≤ M) {s : Tx} (h : s ∈ overD l k) : s.length ≤ M + 1 := by
  unfold overD at h
  rcases List.mem_append.1 h with h | h
  · unfold blockD at h
    rcases List.mem_append.1 h with h1 | h1
    · obtain ⟨t, ht, rfl⟩ := List.mem_map.1 h1
      have := dotT_len t
      have := hl t ht
      omega
    · rw [List.mem_singleton.1 h1]
      show 2 ≤ M + 1
      omega
  · split at h
    · rw [List.mem_singleton.1 h, List.length_append]
      have := lin_ln k (k + l.length - 1)
      have : subT.length = 8 := rfl
      omega
    · cases h
theorem cmds_sm {c : UInt8} {x : ChD} (hf : x.f ≤ 16) (ht : x.t ≤ 16) (h1 : x.older.length ≤ 16 ∧ ∀ s ∈ x.older, s.length ≤ 100) (h2 : x.yours.length ≤ 16 ∧ ∀ s ∈ x.yours, s.length ≤ 100) {s : Tx} (h : s ∈ cmdsD c x) : s.length ≤ 1000 := by
  have htk : ∀ s ∈ takeD x.f x.t x.yours, s.length ≤ 1000 := by
    intro s h
    have f1 := fig_ln x.t
    have f2 := lin_ln (x.f + 1) x.t
    unfold takeD at h
    split at h
    · rw [List.mem_singleton.1 h, List.length_append]
      simp only [List.length_cons, List.length_nil]
      omega
    · split at h
      · rcases List.mem_cons.1 h with rfl | h
        · rw [List.length_append]; simp only [List.length_cons, List.length_nil]; omega
        · have := over_sm (M := 200) (fun t ht => by have := h2.2 t ht; omega) (by omega) h
          omega
      · rcases List.mem_cons.1 h with rfl | h
        · rw [List.length_append]; simp only [List.length_cons, List.length_nil]; omega
        · have := over_sm (M := 200) (fun t ht => by have := h2.2 t ht; omega) (by omega) h
          omega
  have hbr : ∀ (b : Bool), ∀ s ∈ bracketD x.f x.t b x.older x.yours, s.length ≤ 1000 := by
    intro b s h
    have f1 := fig_ln x.t
    have f2 := fig_ln x.f
    have f3 := laid_ln b x.older x.yours
    have hlm : ∀ t ∈ laidT b x.older x.yours, t.length ≤ 200 := by
      intro t ht
      unfold laidT at ht
      rw [List.mem_append, List.mem_cons, List.mem_append, List.mem_singleton] at ht
      rcases ht with ht | rfl | ht | rfl
      · split at ht
        · rcases List.mem_cons.1 ht with rfl | ht
          · simp
          · have := h1.2 t ht; omega
        · cases ht
      · simp
      · have := h2.2 t ht; omega
      · simp
    unfold bracketD at h
    rcases List.mem_cons.1 h with rfl | h
    · rw [List.length_append]; simp only [List.length_cons, List.length_nil]; omega
    · rcases List.mem_append.1 h with h | h
      · have := over_sm (M := 200) hlm (by omega) h
        omega
      · simp only [List.mem_cons, List.not_mem_nil, or_false] at h
        rcases h with rfl | rfl | rfl
        · rw [List.length_append]; simp only [List.length_cons, List.length_nil]; omega
        · simp
        · simp [endD]
  unfold cmdsD at h
  split at h
  · cases h
  · split at h
    · cases h
    · exact htk s h
    · exact hbr _ s h
    · exact hbr _ s h
theorem cut_sm {l : Txs} {f t : Int} (h : l.length ≤ 16 ∧ ∀ s ∈ l, s.length ≤ 100) : (cutL l f t).length ≤ 16 ∧ ∀ s ∈ cutL l f t, s.length ≤ 100 := ⟨Nat.le_trans (cutL_le _ _ _) h.1, fun s hs => h.2 s (cutL_mem hs)⟩
theorem script_sm {c : UInt8} {mine older yours : Txs} {fin : Bool} {er : Int} {x : Txs} (h : ScriptTo c mine older yours fin er x) (h0 : mine.length ≤ 16) (h1 : older.length ≤ 16 ∧ ∀ s ∈ older, s.length ≤ 100) (h2 : yours.length ≤ 16 ∧ ∀ s ∈ yours, s.length ≤ 100) {s : Tx} (hs : s ∈ x) : s.length ≤ 1000 := by
  by_cases he : er = 0
  · obtain ⟨ms, cs, hm, hc, k⟩ := h.2.2 he
    have hL := hm.laid hc
    rw [k, rev_map] at hs
    rcases List.mem_append.1 hs with hs | hs
    · obtain ⟨ck, hck, hs⟩ := List.mem_flatMap.1 hs
      rw [List.mem_reverse] at hck
      obtain ⟨sp, p1, p2, p3, p4, -⟩ := hL.side hck (s := 0) (d := mine) rfl
      refine cmds_sm ?_ ?_ (cut_sm h1) ?_ hs
      · show ((ck.2.2[0]?).getD (0, 0)).1.toNat ≤ 16
        rw [p1]
        show sp.1.toNat ≤ 16
        omega
      · show ((ck.2.2[0]?).getD (0, 0)).2.toNat ≤ 16
        rw [p1]
        show sp.2.toNat ≤ 16
        omega
      · show (cutS ck 1 yours).length ≤ 16 ∧ ∀ s ∈ cutS ck 1 yours, s.length ≤ 100
        unfold cutS
        split
        · exact cut_sm h2
        · simp
    · unfold tailS at hs
      split at hs
      · simp only [List.mem_cons, List.not_mem_nil, or_false] at hs
        rcases hs with rfl | rfl <;> simp
      · cases hs
  · rw [h.2.1 he] at hs
    cases hs
end Go.Proofs.YtoopdgohdeddoaaGreatDoor
/- Proved here: what the statement ScriptEnd says, by the contract of package script. -/
namespace Go.Proofs.YtoopdgohdeddoaaGreatDoor
open Go.RowKit
set_option linter.unusedVariables false
set_option maxRecDepth 100000

section
variable (H : ScriptOk)
include H

set_option maxHeartbeats 8000000 in
theorem ScriptEnd_walk (y : Nat) (A0 : Option Addr) (n0 c0 : Nat) (a : Txs) (A1 : Option Addr) (n1 c1 : Nat) (b : Txs) (A2 : Option Addr) (n2 c2 : Nat) (c : Txs) (w : World) (hy : y ≤ 255)
    (h0 : TxR w w.heap.size (A0, n0, c0) a) (h1 : TxR w w.heap.size (A1, n1, c1) b) (h2 : TxR w w.heap.size (A2, n2, c2) c) :
    Calls Tryz.prog 5 #[.int .u8 (y : Int), .agg #[.slice A0 n0 c0, .slice A1 n1 c1, .slice A2 n2 c2]] w fun e w' => e = .returned (.bool true) ∧ Below w.heap.size w w' := by
  obtain ⟨W1, hW1⟩ : ∃ W1, W1 = w.alloc (.cells #[.slice A0 n0 c0, .slice A1 n1 c1, .slice A2 n2 c2] 23) := ⟨_, rfl⟩
  have hb1 : Below w.heap.size w W1 := by rw [hW1]; exact (Below.refl _ _).alloc (Nat.le_refl _) _
  have k1 : W1.heap[w.heap.size]? = some (.cells #[.slice A0 n0 c0, .slice A1 n1 c1, .slice A2 n2 c2] 23 (0, 0)) := by rw [hW1]; exact Go.Deep.blk_alloc_new w _
  have haw := Lib.hid (scrAwake_any H W1)
  have hlt : w.heap.size < W1.heap.size := (Array.getElem?_eq_some_iff.1 k1).1
  have hC : Hid (∀ x1, Below W1.heap.size W1 x1 → (w.heap.size < x1.heap.size ∧ Below w.heap.size w x1) ∧ x1.cell? ⟨w.heap.size, 0, none⟩ = some (.slice A0 n0 c0) ∧ x1.cell? ⟨w.heap.size, 1, none⟩ = some (.slice A1 n1 c1) ∧ x1.cell? ⟨w.heap.size, 2, none⟩ = some (.slice A2 n2 c2)) := Lib.hid (fun x1 hb => by
    have e1 := (hb.block _ hlt).trans k1
    exact ⟨⟨(Array.getElem?_eq_some_iff.1 e1).1, hb1.trans (hb.mono hb1.size)⟩, by rw [cells_of e1]; rfl, by rw [cells_of e1]; rfl, by rw [cells_of e1]; rfl⟩)
  obtain ⟨F, hF⟩ : ∃ F, fewS a b c = F := ⟨_, rfl⟩
  have hFw := Lib.hid (fun (W : World) (hW : Below w.heap.size w W) => rsFew_any A0 n0 c0 a A1 n1 c1 b A2 n2 c2 c W (h0.up hW) (h1.up hW) (h2.up hW))
  rw [hF] at hFw
  rw [hW1] at haw hC
  cases F
  · clear h0 h1 h2 hF hb1 k1 hlt hW1
    go_enter Tryz.func5, Tryz.ntmps5
    go_wp2_with (first
      | (go_at_call 8; refine haw.out.mono ?_; rintro e x1 ⟨rfl, hb⟩; obtain ⟨hB1x, q0, q1, q2⟩ := hC.out x1 hb; have hB1 := Lib.hid hB1x.2; clear hb hB1x)
      | (go_at_call 14; refine (hFw.out _ hB1.out).mono ?_; rintro e x2 ⟨rfl, hb2⟩; have hB2 := Lib.hid (hB1.out.trans (hb2.mono hB1.out.size)); clear hb2))
    go_ret
    exact ⟨rfl, hB2.out⟩
  · obtain ⟨sa, sb, sc, -⟩ := fewS_is hF
    have hS := Lib.hid (fun (fin : Bool) (W : World) (hW : Below w.heap.size w W) => H (flagC y) A0 n0 c0 a A1 n1 c1 b A2 n2 c2 c fin W sa sb sc (h0.up hW) (h1.up hW) (h2.up hW))
    have hS1 := Lib.hid (fun (W : World) (hW : Below w.heap.size w W) => hS.out false W hW)
    have hS2 := Lib.hid (fun (W : World) (hW : Below w.heap.size w W) => hS.out true W hW)
    have hfl := Lib.hid (fun W : World => flag_any y W hy)
    have hSm := Lib.hid same_S
    have hsm : Hid (∀ (er : Int) (x : Txs) (s : Tx), ScriptTo (flagC y) a b c true er x → s ∈ x → s.length ≤ 1000) := Lib.hid (fun er x s h hs => script_sm h sa.1 sb sc hs)
    have hst : Hid (∀ W W', (w.heap.size < W.heap.size ∧ W.cell? ⟨w.heap.size, 0, none⟩ = some (.slice A0 n0 c0) ∧ W.cell? ⟨w.heap.size, 1, none⟩ = some (.slice A1 n1 c1) ∧ W.cell? ⟨w.heap.size, 2, none⟩ = some (.slice A2 n2 c2)) → Below W.heap.size W W' → (w.heap.size < W'.heap.size ∧ W'.cell? ⟨w.heap.size, 0, none⟩ = some (.slice A0 n0 c0) ∧ W'.cell? ⟨w.heap.size, 1, none⟩ = some (.slice A1 n1 c1) ∧ W'.cell? ⟨w.heap.size, 2, none⟩ = some (.slice A2 n2 c2))) := Lib.hid (fun W W' h hb => ⟨Nat.lt_of_lt_of_le h.1 hb.size, (hb.cell (p := ⟨w.heap.size, 0, none⟩) h.1).trans h.2.1, (hb.cell (p := ⟨w.heap.size, 1, none⟩) h.1).trans h.2.2.1, (hb.cell (p := ⟨w.heap.size, 2, none⟩) h.1).trans h.2.2.2⟩)
    clear h0 h1 h2 hF hb1 k1 hlt hW1 sa sb sc hS H hy
    go_enter Tryz.func5, Tryz.ntmps5
    go_upto_region 4 with (first
      | (go_at_call 8; refine haw.out.mono ?_; rintro e x1 ⟨rfl, hb⟩; obtain ⟨hB1x, q0, q1, q2⟩ := hC.out x1 hb; have hB1 := Lib.hid hB1x.2; have hq1 := Lib.hid (And.intro hB1x.1 (And.intro q0 (And.intro q1 q2))); clear hb hB1x)
      | (go_at_call 14; refine (hFw.out _ hB1.out).mono ?_; rintro e x2 ⟨rfl, hb2⟩; have hB2 := Lib.hid (hB1.out.trans (hb2.mono hB1.out.size)); have hq2 := Lib.hid (hst.out _ _ hq1.out hb2); clear hb2 q0 q1 q2))
    obtain ⟨hltx, q0, q1, q2⟩ := hq2.out
    have hBd := Lib.hid (below_drewN hB2.out 1)
    go_region_held3 (fun wx : World => wx.cell? ⟨w.heap.size, 0, none⟩ = some (.slice A0 n0 c0) ∧ wx.cell? ⟨w.heap.size, 1, none⟩ = some (.slice A1 n1 c1) ∧ wx.cell? ⟨w.heap.size, 2, none⟩ = some (.slice A2 n2 c2))
      (first
        | exact ⟨q0, q1, q2⟩
        | exact ⟨(hb4.cell (p := ⟨w.heap.size, 0, none⟩) hltx).trans q0, (hb4.cell (p := ⟨w.heap.size, 1, none⟩) hltx).trans q1, (hb4.cell (p := ⟨w.heap.size, 2, none⟩) hltx).trans q2⟩)
      (first
        | (go_at_call 11; refine (hfl.out _).mono ?_; rintro e w2 ⟨rfl, hww⟩; have hws := hww.symm; clear hww; subst hws)
        | (go_at_call 10; refine (hS1.out _ (by first | exact hB2.out | exact hBd.out)).mono ?_; rintro e x3 ⟨A3, n3, c3, er, x, rfl, p3, s3, hb4⟩; have hP3 := Lib.hid p3; have hs3 := Lib.hid s3; have hB3 : Hid (Below w.heap.size w x3) := Lib.hid (by first | exact hB2.out.trans (hb4.mono hB2.out.size) | exact hBd.out.trans (hb4.mono hBd.out.size)); clear p3 s3))
    rename_i hHeld
    obtain ⟨r0, r1, r2⟩ := hHeld
    have hlt3 : w.heap.size < x3.heap.size := Nat.lt_of_lt_of_le hltx hb4.size
    have hB3d := Lib.hid (below_drewN hB3.out 1)
    have hP3d := Lib.hid (hP3.out.up (below_drewN (Below.refl _ _) 1))
    clear q0 q1 q2 hb4
    go_upto_region 5 with fail
    go_region_held3 (fun wx : World => wx.cell? ⟨w.heap.size, 0, none⟩ = some (.slice A0 n0 c0) ∧ wx.cell? ⟨w.heap.size, 1, none⟩ = some (.slice A1 n1 c1) ∧ wx.cell? ⟨w.heap.size, 2, none⟩ = some (.slice A2 n2 c2))
      (first
        | exact ⟨r0, r1, r2⟩
        | exact ⟨(hb6.cell (p := ⟨w.heap.size, 0, none⟩) hlt3).trans r0, (hb6.cell (p := ⟨w.heap.size, 1, none⟩) hlt3).trans r1, (hb6.cell (p := ⟨w.heap.size, 2, none⟩) hlt3).trans r2⟩)
      (first
        | (go_at_call 11; refine (hfl.out _).mono ?_; rintro e w4 ⟨rfl, hww⟩; have hws := hww.symm; clear hww; subst hws)
        | (go_at_call 10; refine (hS2.out _ (by first | exact hB3.out | exact hB3d.out)).mono ?_; rintro e x6 ⟨A6, n6, c6, er6, x', rfl, p6, s6, hb6⟩; have hs6 := Lib.hid s6; have hP6 := Lib.hid p6; have hB6 : Hid (Below w.heap.size w x6) := Lib.hid (by first | exact hB3.out.trans (hb6.mono hB3.out.size) | exact hB3d.out.trans (hb6.mono hB3d.out.size)); have hP36 : Hid (TxR x6 x6.heap.size (A3, n3, c3) x) := Lib.hid (by first | exact hP3.out.up hb6 | exact hP3d.out.up hb6); clear p6 s6))
    clear r0 r1 r2
    obtain ⟨re, rn, rz⟩ := script_fin hs3.out hs6.out
    subst re
    have m3 : x.length = n3 := hP36.out.2.2.len
    have m6 : x'.length = n6 := hP6.out.2.2.len
    by_cases h0 : er6 = 0
    · subst h0
      obtain ⟨f1, f2, f3⟩ := rz rfl
      have m7 := Nat.le_trans hP6.out.1 hP6.out.2.1
      dsimp only at m7
      have m8 := m7
      unfold maxLen at m8
      have mm : n6 = n3 + 2 := by rw [← m6, f1, List.length_append, m3]; rfl
      subst mm
      obtain ⟨A9, k9, q9, hsl, hT9, hk9⟩ := slice_to (k := n3) hP6.out (by omega)
      subst hk9
      rw [show x'.take k9 = x by rw [f1, List.take_append_of_le_length (by omega), List.take_of_length_le (by omega)]] at hT9
      have hT9h := Lib.hid hT9
      have hsz := Lib.hid (fun (s : Tx) (hs : s ∈ x') => hsm.out 0 x' s hs6.out hs)
      have hMy := Lib.hid (fun (W : World) (hW : Below x6.heap.size x6 W) => f2 ▸ rMayB_any A6 (k9 + 2) c6 W.heap.size x' W m7 (fun s hs => Nat.le_trans (hsz.out s hs) (by decide)) (hP6.out.up hW).2.2)
      have hOp := Lib.hid (fun (W : World) (hW : Below x6.heap.size x6 W) => f3 ▸ rOpen_any A6 (k9 + 2) c6 W.heap.size x' W m7 (fun s hs => Nat.le_trans (hsz.out s hs) (by decide)) (hP6.out.up hW).2.2)
      have hw : IntKind.i64.wrap ((k9 : Int) + 2) = ((k9 + 2 : Nat) : Int) := by rw [IntWalk.i64_in _ (by omega)]; omega
      clear f1 f2 f3 m3 m6 rn rz hT9 m7
      have tok1 := trivial
      go_wp2_with (first
        | (refine hsl _)
        | (go_at_call 13; refine (hSm.out _ _ _ _ _ _ _ _ hT9h.out hP36.out).mono ?_; rintro e w7 ⟨rfl, q7⟩; have hB7 := Lib.hid (hB6.out.trans (q7.mono hB6.out.size)); have hb7 := Lib.hid q7; clear q7)
        | (go_at_call 16; refine (hMy.out _ hb7.out).mono ?_; rintro e w8 ⟨rfl, hww⟩; first | subst hww | (have hws := hww.symm; clear hww; subst hws))
        | (go_at_call 15; refine (hOp.out _ hb7.out).mono ?_; rintro e w9 ⟨rfl, hww⟩; subst hww))
      go_ret
      exact ⟨rfl, hB7.out⟩
    · obtain ⟨rfl, rfl⟩ := rn h0
      have hne : (er6 != 0) = true := by simpa using h0
      obtain rfl : 0 = n3 := m3
      obtain rfl : 0 = n6 := m6
      clear rn rz h0
      go_wp2
      go_ret
      exact ⟨rfl, hB6.out⟩
end
end Go.Proofs.YtoopdgohdeddoaaGreatDoor
/- Proved here: the contract of the document's own answer of layer 16: Closed. -/
namespace Go.Proofs.YtoopdgohdeddoaaGreatDoor
open Go.RowKit
set_option linter.unusedVariables false
set_option maxRecDepth 100000

set_option maxHeartbeats 1000000 in
theorem rClosed_any (A : Option Addr) (n c : Nat) (l : Txs) (w : World) (hs : ∀ s ∈ l, s.length ≤ maxLen) (hA : TxR w w.heap.size (A, n, c) l) :
    Calls Tryz.prog 17 #[.slice A n c] w fun e w' => (∃ A' n' c', e = .returned (.slice A' n' c') ∧ TxR w w.heap.size (A', n', c') (shutL l)) ∧ w' = w := by
  have hl : l.length = n := hA.2.2.len
  have hnm := Nat.le_trans hA.1 hA.2.1
  dsimp only at hnm
  have hO := Lib.hid (rOpen_any A n c w.heap.size l w hnm hs hA.2.2)
  obtain ⟨o, ho⟩ : ∃ o, openB l = o := ⟨_, rfl⟩
  rw [ho] at hO
  cases o
  · have hf : Hid (TxR w w.heap.size (A, n, c) (shutL l)) := Lib.hid (by unfold shutL; rw [ho, if_neg (by decide)]; exact hA)
    clear hA ho hs
    go_enter Tryz.func17, Tryz.ntmps17
    go_wp2_with (go_at_call 15; refine hO.out.mono ?_; rintro e w4 ⟨rfl, hww⟩; subst hww)
    go_ret
    exact ⟨⟨A, n, c, rfl, hf.out⟩, rfl⟩
  · have hn : 1 ≤ n := by
      rw [← hl]
      cases l with
      | nil => cases ho
      | cons t r => simp
    obtain ⟨A9, k9, q9, hsl, hT9, hk9⟩ := slice_to (k := n - 1) hA (by omega)
    subst hk9
    have hf : Hid (TxR w w.heap.size (A9, n - 1, q9) (shutL l)) := Lib.hid (by unfold shutL; rw [ho, if_pos rfl, List.dropLast_eq_take, hl]; exact hT9)
    rw [show ((n - 1 : Nat) : Int) = (n : Int) - 1 from by omega] at hsl
    have hw : IntKind.i64.wrap ((n : Int) - 1) = (n : Int) - 1 := by unfold maxLen at hnm; exact IntWalk.i64_in _ (by omega)
    clear hA ho hs hT9
    go_enter Tryz.func17, Tryz.ntmps17
    go_wp2_with (go_at_call 15; refine hO.out.mono ?_; rintro e w4 ⟨rfl, hww⟩; subst hww)
    go_ret
    exact ⟨⟨A9, n - 1, q9, rfl, hf.out⟩, rfl⟩
end Go.Proofs.YtoopdgohdeddoaaGreatDoor
