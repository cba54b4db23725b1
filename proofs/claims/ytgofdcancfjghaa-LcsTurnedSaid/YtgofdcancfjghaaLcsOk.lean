/- What the statements of layer 3 ask of package lcs, and what follows of it: long, turned, both, awake. -/
import Derived.Test.YtgofdcancfjghaaLcsRefM
namespace Go.Proofs.Ytgofdcancfjghaa
open Go.RowKit
set_option linter.unusedVariables false

section
variable (Pr : World → Nat → (Nat → Prop) → List Int → List Int → Prop)
/-- Behind a call that touches blocks of F alone, block T is the pair of a and b. -/
def PrAfter (w w' : World) (T : Nat) (F : Nat → Prop) (a b : List Int) : Prop := ∃ F', Pr w' T F' a b ∧ But F w w' ∧ ∀ k, F' k → F k ∨ w.heap.size ≤ k
/-- What New tells of two lists that may be. -/
def NewOut (w w' : World) (e : Ending) (a b : List Int) : Prop := ∃ T F, e = .returned (.tuple #[.pointer (some ⟨T, 0, none⟩), .int .i64 0]) ∧ Pr w' T F a b ∧ (∀ k, F k → w.heap.size ≤ k) ∧ Below w.heap.size w w'
/-- What Match tells. -/
def MatchOut (w w' : World) (e : Ending) (T : Nat) (F : Nat → Prop) (a b : List Int) : Prop :=
  ∃ A n c F', e = .returned (.slice A n c) ∧ n = a.length ∧ n ≤ c ∧ c ≤ maxLen ∧ Nums w' w'.heap.size A n (mt a b 0) ∧ (∀ q o, A = some ⟨q, o, none⟩ → ¬ F' q) ∧ Pr w' T F' a b ∧ But F w w' ∧ ∀ k, F' k → F k ∨ w.heap.size ≤ k

/-- The contracts of package lcs: 'Pr w T F a b': at block T lies the pair of a and b, and the blocks of F may still turn. -/
structure LcsOk : Prop where
  kept : ∀ {w w' : World} {T : Nat} {F : Nat → Prop} {a b : List Int}, Pr w T F a b → Below w.heap.size w w' → Pr w' T F a b
  new_ok : ∀ (A A' : Option Addr) (n n' c c' : Nat) (a b : List Int) (w : World), n ≤ 2000 → n' ≤ 2000 → n ≤ c → n' ≤ c' → c ≤ maxLen → c' ≤ maxLen → Nums w w.heap.size A n a → Nums w w.heap.size A' n' b →
    Calls Try.prog 11 #[.slice A n c, .slice A' n' c'] w fun e w' => NewOut Pr w w' e a b
  new_long : ∀ (A A' : Option Addr) (n n' c c' : Nat) (w : World), n ≤ maxLen → n' ≤ maxLen → 2000 < n ∨ 2000 < n' →
    Calls Try.prog 11 #[.slice A n c, .slice A' n' c'] w fun e w' => e = .returned (.tuple #[.pointer none, .int .i64 4]) ∧ Below w.heap.size w w'
  len_any : ∀ (T : Nat) (F : Nat → Prop) (a b : List Int) (w : World), Pr w T F a b → Calls Try.prog 15 #[.pointer (some ⟨T, 0, none⟩)] w fun e w' => e = .returned (.int .i64 (lcsL a b)) ∧ PrAfter Pr w w' T F a b
  match_any : ∀ (T : Nat) (F : Nat → Prop) (a b : List Int) (w : World), Pr w T F a b → Calls Try.prog 13 #[.pointer (some ⟨T, 0, none⟩)] w fun e w' => MatchOut Pr w w' e T F a b
  len_nil : ∀ (w : World), Calls Try.prog 15 #[.pointer none] w fun e w' => e = .returned (.int .i64 0) ∧ w = w'
  match_nil : ∀ (w : World), Calls Try.prog 13 #[.pointer none] w fun e w' => ∃ A c, e = .returned (.slice A 0 c) ∧ w = w'
end

section
variable {Pr : World → Nat → (Nat → Prop) → List Int → List Int → Prop} (H : LcsOk Pr)
include H

set_option maxHeartbeats 400000 in
theorem long_any (A A' : Option Addr) (n n' c c' : Nat) (a b : List Int) (w : World) (h1 : n ≤ 2000) (h2 : n' ≤ 2000) (h3 : n ≤ c) (h4 : n' ≤ c') (h5 : c ≤ maxLen) (h6 : c' ≤ maxLen) (hA : Nums w w.heap.size A n a) (hA' : Nums w w.heap.size A' n' b) :
    Calls Try.prog 17 #[.slice A n c, .slice A' n' c'] w fun e w' => e = .returned (.int .i64 (lcsL a b)) ∧ Below w.heap.size w w' := by
  have hN := Lib.hid (H.new_ok A A' n n' c c' a b w h1 h2 h3 h4 h5 h6 hA hA')
  have hL := Lib.hid H.len_any
  have hl : Hid (lcsL a b ≤ 2000) := Lib.hid (by have := lcs_le_left a b; have := hA.len; omega)
  go_enter Try.func17, Try.ntmps17
  go_wp2_with (first
    | (go_at_call 11; refine hN.out.mono ?_; rintro e w1 ⟨T, F, rfl, hP, hF, hB⟩)
    | (go_at_call 15; refine (hL.out T F a b _ hP).mono ?_; rintro e w2 ⟨rfl, F', hP', hb, hF'⟩))
  go_ret
  exact ⟨rfl, hB.trans (hb.below hB.size hF)⟩

omit H in
set_option maxHeartbeats 400000 in
theorem turned_any (A : Option Addr) (n c : Nat) (a : List Int) (w : World) (hn : n ≤ 1000) (hA : Nums w w.heap.size A n a) :
    Calls Try.prog 18 #[.slice A n c] w fun e w' => NewNums w w' e a.reverse := by
  have hl := hA.len
  obtain ⟨i0, hi, hz0, hz1, hz2⟩ := info_parts infoInt
  go_enter Try.func18, Try.ntmps18
  go_wp2
  go_loopw [3, 4] (fun sv si wr => ∃ (I : Nat) (v : Value), I ≤ n ∧ si = .int .i64 ((I : Int) - 1) ∧ v = sv ∧ wr.ownsRow w.heap.size 3 1 v (n - I) ((a.drop I).reverse.map fun x => .int .i64 x) ∧ Below w.heap.size w wr) (fun _ si _ => (intOf si + 1).toNat)
  case atStart => exact ⟨n, _, Nat.le_refl _, rfl, rfl, by rw [List.drop_of_length_le (by omega), Nat.sub_self]; exact World.ownsRow_nil _ _ _ _, Below.refl _ _⟩
  case round =>
    obtain ⟨I, v, hI, rfl, rfl, hown, hB⟩ := hrel
    obtain ⟨wo, rfl⟩ : ∃ wo : World, wo = wr := ⟨_, rfl⟩
    rcases I with _ | r
    · go_wp2
      go_ret
      obtain ⟨Ao, co, rfl, h1, h2, h3⟩ := nums_of_own hown
      exact ⟨Ao, _, co, rfl, by simp [hl], h1, h2, by simpa using h3, hB⟩
    · have hr : r < n := by omega
      have hir : (((r + 1 : Nat) : Int) - 1) = (r : Int) := by omega
      rw [hir]
      clear hir
      obtain ⟨b, o, x, rfl, hb, hx, hc0⟩ := hA.at_ (k := r) hr
      have hc := (hB.cell (p := ⟨b, o + r, none⟩) hb).trans hc0
      have hnr : Hid (n - (r + 1) + 1 = n - r) := Lib.hid (by omega)
      have hdr := Lib.hid (drop_at hx)
      have hmax : Hid (n - (r + 1) + 1 ≤ maxLen ∧ (n - (r + 1) + 1) * 8 ≤ 140737488355328) := Lib.hid ⟨by unfold maxLen; omega, by omega⟩
      have hso := hB.size
      clear hx hc0
      go_wp2_with (at_builtin; refine wpList_append_own_at _ rfl _ _ 22 rfl w.heap.size 3 i0 (.int .i64 0) 1 8 Try.underlying22 hi hz0 hz1 hz2 rfl (by decide) v (n - (r + 1)) _ rfl (hown.alloc _) ⟨wo.heap.size, 0, none⟩ 1 1 [.int .i64 x] rfl rfl (cell_one_new _ _ _) (by simp [Value.oneCell']) hmax.out.1 hmax.out.2 (by simp; omega) ?_; intro v' w2 hown2 hg2 hnil2 hloc2; clear hnil2)
      go_roundw
      case rel => exact ⟨r, v', by omega, by go_num, rfl, by rw [hnr.out] at hown2; rw [hdr.out]; simpa using hown2, (hB.alloc hso _).grown hg2 (by simp; omega) (fun j e => (hown.lt j e).1)⟩
      case measure => simp [intOf]

omit H in
set_option maxHeartbeats 400000 in
theorem both_any (A A' : Option Addr) (n n' c c' B B' : Nat) (a b : List Int) (w : World) (hn : n ≤ 1000) (hn' : n' ≤ 1000) (hB : B ≤ w.heap.size) (hB' : B' ≤ w.heap.size) (hA : Nums w B A n a) (hA' : Nums w B' A' n' b) :
    Calls Try.prog 19 #[.slice A n c, .slice A' n' c'] w fun e w' => NewNums w w' e (a ++ b) := by
  have hl := hA.len
  have hl' := hA'.len
  obtain ⟨i0, hi, hz0, hz1, hz2⟩ := info_parts infoInt
  have hw0 : (w.alloc (.cells #[] 3)).ownsRow w.heap.size 3 1 (.slice (some ⟨w.heap.size, 0, none⟩) 0 0) 0 [] := own_empty w w.heap.size _ (Nat.le_refl _)
  have hB0 : Below w.heap.size w (w.alloc (.cells #[] 3)) := (Below.refl _ _).alloc (Nat.le_refl _) _
  have hm : Hid (0 + n ≤ maxLen ∧ (0 + n) * 8 ≤ 140737488355328 ∧ n + n' ≤ maxLen ∧ (n + n') * 8 ≤ 140737488355328) := Lib.hid ⟨by unfold maxLen; omega, by omega, by unfold maxLen; omega, by omega⟩
  have tok1 := trivial
  go_enter Try.func19, Try.ntmps19
  go_wp2_with (first
    | (at_builtin; have _t := tok1; refine wpList_append_reads _ rfl _ _ 22 rfl w.heap.size 3 i0 (.int .i64 0) 8 Try.underlying22 hi hz0 hz1 hz2 rfl _ 0 [] rfl hw0 w.heap.size A n c _ rfl ((hA.more hB).below hB0) (nums_one _) hm.out.1 hm.out.2.1 hB0.size ?_; intro v1 w1 hown1 hg1; clear tok1; have hB1 : Below w.heap.size w w1 := hB0.grown hg1 hB0.size (fun j e => (hw0.lt j e).1); rw [Nat.zero_add, List.nil_append] at hown1)
    | (at_builtin; refine wpList_append_reads _ rfl _ _ 22 rfl w.heap.size 3 i0 (.int .i64 0) 8 Try.underlying22 hi hz0 hz1 hz2 rfl v1 n _ rfl hown1 w.heap.size A' n' c' _ rfl ((hA'.more hB').below hB1) (nums_one _) hm.out.2.2.1 hm.out.2.2.2 hB1.size ?_; intro v2 w2 hown2 hg2))
  go_ret
  have hB2 : Below w.heap.size w w2 := hB1.grown hg2 hB1.size (fun j e => (hown1.lt j e).1)
  rw [← List.map_append] at hown2
  obtain ⟨Ao, co, rfl, h1, h2, h3⟩ := nums_of_own hown2
  exact ⟨Ao, _, co, rfl, by simp [hl, hl'], h1, h2, h3, hB2⟩
end
end Go.Proofs.Ytgofdcancfjghaa
