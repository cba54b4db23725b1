/- Proved here: texts joined: LcsPair, MgPair, MgUp. -/
import Derived.Test.YticgjbckfpkpjaaGreatBt32
import Derived.Deep.OwnRows
/- Proved here: the contracts of package lcs: New, Match (and reckon, which sync.Once calls once). -/
namespace Go.Proofs.YticgjbckfpkpjaaGreat
open Go.RowKit
set_option linter.unusedVariables false
set_option maxRecDepth 100000

theorem cells_set {w : World} {T j : Nat} {C : Array Value} {t : TypeId} (x : Value) (h : w.heap[T]? = some (.cells C t (0, 0))) : (w.setCell ⟨T, j, none⟩ x).heap[T]? = some (.cells (C.setIfInBounds j x) t (0, 0)) := by
  simp [World.setCell, Array.getElem?_modify, h]

/-- Block T is a pair that was reckoned (o0, o1, o2: its Once). -/
def DoneAt (w : World) (T : Nat) (o0 o1 o2 : Value) (a b : List Int) : Prop :=
  ∃ M c, w.heap[T]? = some (.cells #[.slice none 0 0, .slice none 0 0, o0, o1, o2, .int .i64 (lcsL a b), .slice M a.length c] 112 (0, 0)) ∧ Nums w w.heap.size M a.length (mt a b 0) ∧ ∀ q o, M = some ⟨q, o, none⟩ → q ≠ T
/-- Block T is a pair that wasn't reckoned yet. -/
def NewAt (w : World) (T : Nat) (o0 o1 o2 : Value) (a b : List Int) : Prop :=
  ∃ A c A' c' l m, w.heap[T]? = some (.cells #[.slice A a.length c, .slice A' b.length c', o0, o1, o2, l, m] 112 (0, 0)) ∧ Nums w w.heap.size A a.length a ∧ Nums w w.heap.size A' b.length b ∧ (∀ q o, A = some ⟨q, o, none⟩ → q ≠ T) ∧ ∀ q o, A' = some ⟨q, o, none⟩ → q ≠ T

section
variable {w w' : World} {T : Nat} {o0 o1 o2 : Value} {a b : List Int}
theorem nums_apart {A : Option Addr} {n : Nat} {xs : List Int} (h : Nums w w.heap.size A n xs) (hs : w.heap.size ≤ w'.heap.size) (hk : ∀ k, k < w.heap.size → k ≠ T → w'.heap[k]? = w.heap[k]?) (hne : ∀ q o, A = some ⟨q, o, none⟩ → q ≠ T) : Nums w' w'.heap.size A n xs := by
  refine ⟨h.1, fun hn => ?_⟩
  obtain ⟨q, o, rfl, hlt, hc⟩ := h.2 hn
  exact ⟨q, o, rfl, by omega, fun j u hu => (World.cell?_of_block (w := w) (hk q hlt (hne q o rfl))).trans (hc j u hu)⟩
theorem DoneAt.lt (h : DoneAt w T o0 o1 o2 a b) : T < w.heap.size := by obtain ⟨_, _, h, _⟩ := h; exact (Array.getElem?_eq_some_iff.1 h).1
theorem NewAt.lt (h : NewAt w T o0 o1 o2 a b) : T < w.heap.size := by obtain ⟨_, _, _, _, _, _, h, _⟩ := h; exact (Array.getElem?_eq_some_iff.1 h).1
theorem DoneAt.below (h : DoneAt w T o0 o1 o2 a b) (hb : Below w.heap.size w w') : DoneAt w' T o0 o1 o2 a b := by
  have hlt := h.lt
  obtain ⟨M, c, h1, h2, h3⟩ := h
  exact ⟨M, c, (hb.block T hlt).trans h1, (h2.below hb).more hb.size, h3⟩
theorem NewAt.below (h : NewAt w T o0 o1 o2 a b) (hb : Below w.heap.size w w') : NewAt w' T o0 o1 o2 a b := by
  have hlt := h.lt
  obtain ⟨A, c, A', c', l, m, h1, h2, h3, h4, h5⟩ := h
  exact ⟨A, c, A', c', l, m, (hb.block T hlt).trans h1, (h2.below hb).more hb.size, (h3.below hb).more hb.size, h4, h5⟩
end

/-- What reckon leaves. -/
def RecOut (w w' : World) (T : Nat) (o0 o1 o2 : Value) (a b : List Int) : Prop := DoneAt w' T o0 o1 o2 a b ∧ But (fun k => k = T) w w'

theorem rec_fin {w w1 w2 : World} {T : Nat} {o0 o1 o2 l m sA sB : Value} {a b : List Int} {C : Array Value} {M : Option Addr} {c : Nat} (hT : w.heap[T]? = some (.cells #[sA, sB, o0, o1, o2, l, m] 112 (0, 0)))
    (h1 : Below w.heap.size w w1) (h2 : Below w1.heap.size w1 w2) (hM : Nums w2 w2.heap.size M a.length (mt a b 0)) (hne : ∀ q o, M = some ⟨q, o, none⟩ → q ≠ T) :
    RecOut w ((((w2.setCell ⟨T, 5, none⟩ (.int .i64 (lcsL a b))).setCell ⟨T, 6, none⟩ (.slice M a.length c)).setCell ⟨T, 0, none⟩ (.slice none 0 0)).setCell ⟨T, 1, none⟩ (.slice none 0 0)) T o0 o1 o2 a b := by
  have hlt : T < w.heap.size := (Array.getElem?_eq_some_iff.1 hT).1
  have hT2 : w2.heap[T]? = some (.cells #[sA, sB, o0, o1, o2, l, m] 112 (0, 0)) := (h2.block T (Nat.lt_of_lt_of_le hlt h1.size)).trans ((h1.block T hlt).trans hT)
  have hb2 : But (fun k => k = T) w w2 := .of_below (h1.trans (h2.mono h1.size)) fun k hk _ => hk
  have s1 := But.setCell (F := fun k => k = T) w2 (p := ⟨T, 5, none⟩) rfl (.int .i64 (lcsL a b))
  have s2 := But.setCell (F := fun k => k = T) (w2.setCell ⟨T, 5, none⟩ (.int .i64 (lcsL a b))) (p := ⟨T, 6, none⟩) rfl (.slice M a.length c)
  have s3 := But.setCell (F := fun k => k = T) ((w2.setCell ⟨T, 5, none⟩ (.int .i64 (lcsL a b))).setCell ⟨T, 6, none⟩ (.slice M a.length c)) (p := ⟨T, 0, none⟩) rfl (.slice none 0 0)
  have s4 := But.setCell (F := fun k => k = T) (((w2.setCell ⟨T, 5, none⟩ (.int .i64 (lcsL a b))).setCell ⟨T, 6, none⟩ (.slice M a.length c)).setCell ⟨T, 0, none⟩ (.slice none 0 0)) (p := ⟨T, 1, none⟩) rfl (.slice none 0 0)
  have s := ((s1.trans s2 fun k e => .inl e).trans s3 fun k e => .inl e).trans s4 fun k e => .inl e
  refine ⟨⟨M, c, ?_, ?_, hne⟩, hb2.trans s fun k e => .inl e⟩
  · rw [cells_set _ (cells_set _ (cells_set _ (cells_set _ hT2)))]; rfl
  · exact nums_apart hM s.size (fun k hk hn => s.block k hk hn) hne

set_option maxRecDepth 100000 in
set_option maxHeartbeats 2000000 in
theorem reckon_any (T : Nat) (o0 o1 o2 : Value) (a b : List Int) (w : World) (hla : a.length ≤ 2000) (hlb : b.length ≤ 2000) (h : NewAt w T o0 o1 o2 a b) :
    Calls Tryz.prog 58 #[.pointer (some ⟨T, 0, none⟩)] w fun e w' => e = .returned (.tuple #[]) ∧ RecOut w w' T o0 o1 o2 a b := by
  have hlt := h.lt
  obtain ⟨A, c, A', c', l, m, hT, hA, hA', hne, hne'⟩ := h
  have c0 : w.cell? ⟨T, 0, none⟩ = some (.slice A a.length c) := by rw [cells_of hT]; rfl
  have c1 : w.cell? ⟨T, 1, none⟩ = some (.slice A' b.length c') := by rw [cells_of hT]; rfl
  have hcall := Lib.hid (meas_any A A' a.length b.length c c' w.heap.size w.heap.size a b w.drew hla hlb hA.drew hA'.drew (Nat.le_refl _) (Nat.le_refl _))
  have hfin := Lib.hid (fun w1 w2 M cM => rec_fin (w := w) (w1 := w1) (w2 := w2) (M := M) (c := cM) (a := a) (b := b) (C := #[]) hT)
  have hTh := Lib.hid hT
  go_enter Tryz.func58, Tryz.ntmps58
  go_upto_region 0 with fail
  go_cut [2, 3] (fun s2 s3 wx => ∃ S, s2 = .int .i64 (lcsL a b) ∧ s3 = .slice (some ⟨S, 0, none⟩) a.length a.length ∧ Skips wx (some ⟨S, 0, none⟩) a.length b.length a b ∧ Below w.heap.size w wx)
  case first =>
    go_region_with (go_at_call 93; refine hcall.out.mono ?_; rintro e w1 ⟨S, rfl, hS, hb⟩)
    all_goals (go_wp2_with fail; go_meet; exact ⟨S, rfl, rfl, hS, ⟨hb.os, hb.tape, hb.output, hb.size, hb.block⟩⟩)
  case rest =>
  obtain ⟨S, rfl, rfl, hS, hb⟩ := hcut
  have hT1 : wc.heap[T]? = some (.cells #[.slice A a.length c, .slice A' b.length c', o0, o1, o2, l, m] 112 (0, 0)) := (hb.block T hlt).trans hTh.out
  have hlt1 : T < wc.heap.size := Nat.lt_of_lt_of_le hlt hb.size
  have hw := walk_any A A' (some ⟨S, 0, none⟩) a.length b.length c c' a.length wc.heap.size wc.heap.size a b wc.drew hla hlb ((hA.below hb).more hb.size).drew ((hA'.below hb).more hb.size).drew (Nat.le_refl _) (Nat.le_refl _) (hS.below (Below.refl _ _).drew)
  have hw' : Calls Tryz.prog 94 #[.slice A a.length c, .slice A' b.length c', .slice (some ⟨S, 0, none⟩) a.length a.length] wc.drew fun e w2 =>
      e = .returned (.slice (some ⟨wc.heap.size, 0, none⟩) a.length a.length) ∧ (w2.cell? ⟨T, 0, none⟩ = some (.slice A a.length c) ∧ w2.cell? ⟨T, 1, none⟩ = some (.slice A' b.length c') ∧ w2.cell? ⟨T, 5, none⟩ = some l ∧ w2.cell? ⟨T, 6, none⟩ = some m ∧ ∀ k, w2.frozen? ⟨T, k, none⟩ = false) ∧
        Hid (RecOut w ((((w2.setCell ⟨T, 5, none⟩ (.int .i64 (lcsL a b))).setCell ⟨T, 6, none⟩ (.slice (some ⟨wc.heap.size, 0, none⟩) a.length a.length)).setCell ⟨T, 0, none⟩ (.slice none 0 0)).setCell ⟨T, 1, none⟩ (.slice none 0 0)) T o0 o1 o2 a b) :=
    hw.mono fun e w2 h => by
      obtain ⟨h1, h2, h3⟩ := h
      have hbw : Below wc.heap.size wc w2 := ⟨h3.os, h3.tape, h3.output, h3.size, h3.block⟩
      have hT2 := (hbw.block T hlt1).trans hT1
      refine ⟨h1, ⟨by rw [cells_of hT2]; rfl, by rw [cells_of hT2]; rfl, by rw [cells_of hT2]; rfl, by rw [cells_of hT2]; rfl, fun k => unfrozen_of hT2 k⟩, Lib.hid (hfin.out wc w2 _ _ hb hbw h2 fun q o e => ?_)⟩
      injection e with e
      injection e with e
      have e' : wc.heap.size = q := e
      omega
  have hw2 := Lib.hid hw'
  have d0 : wc.cell? ⟨T, 0, none⟩ = some (.slice A a.length c) := by rw [cells_of hT1]; rfl
  have d1 : wc.cell? ⟨T, 1, none⟩ = some (.slice A' b.length c') := by rw [cells_of hT1]; rfl
  clear hw hw' c0 c1 hT hfin hcall hTh hT1 hS hb hA hA'
  go_upto_region 1 with fail
  go_region_with (go_at_call 94; refine hw2.out.mono ?_; rintro e w2 ⟨rfl, ⟨g0, g1, g5, g6, gf⟩, hfin⟩)
  all_goals (go_wp2; go_end0)
  all_goals exact ⟨rfl, hfin.out⟩

theorem reckon_enter (x : Value) (w : World) : (callFunc 58 #[x]).run Tryz.prog w = .ok (.enter 58 #[x]) w := by
  have h1 : Tryz.f58.name ≠ "runtime.NumGoroutine" := by simpa using (show (Tryz.f58.name == "runtime.NumGoroutine") = false by kernel_rfl)
  simp [callFunc, Tryz.func58, h1, show Tryz.f58.body = some _ from rfl]

theorem DoneAt.once {w : World} {T : Nat} {o0 o1 o2 : Value} {a b : List Int} (x y : Value) (h : DoneAt w T o0 o1 o2 a b) : DoneAt ((w.drew.setCell ⟨T, 2, none⟩ x).setCell ⟨T, 3, none⟩ y) T x y o2 a b := by
  obtain ⟨M, c, h1, h2, h3⟩ := h
  have h1' : w.drew.heap[T]? = _ := h1
  have s1 := But.setCell (F := fun k => k = T) w.drew (p := ⟨T, 2, none⟩) rfl x
  have s2 := But.setCell (F := fun k => k = T) (w.drew.setCell ⟨T, 2, none⟩ x) (p := ⟨T, 3, none⟩) rfl y
  have s := s1.trans s2 fun k e => .inl e
  exact ⟨M, c, by rw [cells_set _ (cells_set _ h1')]; rfl, nums_apart (w := w) h2 s.size (fun k hk hn => s.block k hk hn) h3, h3⟩

/-- Block T is the pair of a and b: not reckoned yet, or reckoned. -/
def PairIs (w : World) (T : Nat) (F : Nat → Prop) (a b : List Int) : Prop :=
  (∀ k, F k ↔ k = T) ∧ a.length ≤ 2000 ∧ b.length ≤ 2000 ∧ (NewAt w T (.int .u32 0) (.int .i32 0) (.int .u32 0) a b ∨ DoneAt w T (.int .u32 1) (.int .i32 0) (.int .u32 0) a b)

/-- Behind the Once: the pair is reckoned. -/
def Reckoned (w w' : World) (e : Ending) (T : Nat) (a b : List Int) : Prop := e = .returned (.tuple #[]) ∧ DoneAt w' T (.int .u32 1) (.int .i32 0) (.int .u32 0) a b ∧ But (fun k => k = T) w w'

theorem pair_do (T : Nat) (F : Nat → Prop) (a b : List Int) (w : World) (h : PairIs w T F a b) :
    Calls Tryz.prog 57 #[.pointer (some ⟨T, 2, none⟩), .func (.func 58) #[.pointer (some ⟨T, 0, none⟩)] #[]] w fun e w' => Reckoned w w' e T a b := by
  obtain ⟨-, hla, hlb, h | h⟩ := h
  · have hlt := h.lt
    obtain ⟨A, c, A', c', l, m, hT, hA, hA', hne, hne'⟩ := h
    have s1 := But.setCell (F := fun k => k = T) w (p := ⟨T, 3, none⟩) rfl (.int .i32 1)
    have hN : NewAt (w.setCell ⟨T, 3, none⟩ (.int .i32 1)) T (.int .u32 0) (.int .i32 1) (.int .u32 0) a b :=
      ⟨A, c, A', c', l, m, by rw [cells_set _ hT]; rfl, nums_apart hA s1.size (fun k hk hn => s1.block k hk hn) hne, nums_apart hA' s1.size (fun k hk hn => s1.block k hk hn) hne', hne, hne'⟩
    refine (do_first T 2 58 (.pointer (some ⟨T, 0, none⟩)) w (fun w' => RecOut (w.setCell ⟨T, 3, none⟩ (.int .i32 1)) w' T (.int .u32 0) (.int .i32 1) (.int .u32 0) a b) (by rw [cells_of hT]; rfl) (by rw [cells_of hT]; rfl) (unfrozen_of hT _) (unfrozen_of hT _) (reckon_enter _) (reckon_any T _ _ _ a b _ hla hlb hN) ?_).mono ?_
    · rintro w' ⟨⟨M, cM, h1, -, -⟩, -⟩
      exact ⟨by rw [cells_of h1]; rfl, by rw [cells_of h1]; rfl, unfrozen_of h1 _, unfrozen_of h1 _⟩
    · rintro e w' ⟨rfl, w2, ⟨hD, hb⟩, rfl⟩
      have t1 := But.setCell (F := fun k => k = T) w2.drew (p := ⟨T, 2, none⟩) rfl (.int .u32 1)
      have t2 := But.setCell (F := fun k => k = T) (w2.drew.setCell ⟨T, 2, none⟩ (.int .u32 1)) (p := ⟨T, 3, none⟩) rfl (.int .i32 0)
      have hb' : But (fun k => k = T) (w.setCell ⟨T, 3, none⟩ (.int .i32 1)) w2.drew := ⟨hb.os, hb.tape, hb.output, hb.size, hb.block⟩
      exact ⟨rfl, hD.once _ _, ((s1.trans hb' fun k e => .inl e).trans t1 fun k e => .inl e).trans t2 fun k e => .inl e⟩
  · have h' := h
    obtain ⟨M, c, h1, -, -⟩ := h
    refine (do_done ⟨T, 2, none⟩ 1 (by decide) _ w (by rw [cells_of h1]; rfl)).mono ?_
    rintro e w' ⟨rfl, rfl⟩
    exact ⟨rfl, h', .refl _ _⟩

set_option maxHeartbeats 400000 in
theorem match_any' (T : Nat) (F : Nat → Prop) (a b : List Int) (w : World) (h : PairIs w T F a b) :
    Calls Tryz.prog 31 #[.pointer (some ⟨T, 0, none⟩)] w fun e w' => MatchOut PairIs w w' e T F a b := by
  have hd := Lib.hid (pair_do T F a b w h)
  have hh := Lib.hid h
  have hla := h.2.1
  clear h
  go_enter Tryz.func31, Tryz.ntmps31
  go_wp2_with (first
    | (go_at_call 57; refine hd.out.mono ?_; rintro e w1 ⟨rfl, hD, hb⟩; have hD' := Lib.hid hD; have hlt := hD.lt; obtain ⟨M, cM, hT, hN, hne⟩ := hD; have c6 : w1.cell? ⟨T, 6, none⟩ = some (.slice M a.length cM) := (by rw [cells_of hT]; rfl); have hcl := Lib.hid (clone_any M a.length cM w1.heap.size (mt a b 0) w1 hla (Nat.le_refl _) hN); clear hT hN hne)
    | (go_at_call 59; refine hcl.out.mono ?_; rintro e w2 ⟨v, rfl, hown, hb2⟩; obtain ⟨Ao, co, rfl, k1, k2, k3⟩ := nums_of_own hown))
  go_ret
  obtain ⟨h1, h2, h3, -⟩ := hh.out
  refine ⟨Ao, a.length, co, F, rfl, rfl, k1, k2, k3, fun q o e hq => ?_, ⟨h1, h2, h3, .inr (hD'.out.below hb2)⟩, (hb.trans (But.of_below hb2 fun k hk _ => hk) (F' := fun k => k = T) fun k e => .inl e).more fun k e => (h1 k).2 e, fun k hk => .inl hk⟩
  subst e
  have := (h1 q).1 hq
  have := (hown.lt q rfl).1
  omega

/-- Nothing. -/
def NoNums (w w' : World) (e : Ending) : Prop := ∃ A c, e = .returned (.slice A 0 c) ∧ w = w'
set_option maxHeartbeats 400000 in
theorem match_nil' (w : World) : Calls Tryz.prog 31 #[.pointer none] w fun e w' => NoNums w w' e := by
  go_enter Tryz.func31, Tryz.ntmps31
  go_wp2
  go_ret
  exact ⟨none, 0, rfl, rfl⟩

set_option maxHeartbeats 400000 in
theorem new_long' (A A' : Option Addr) (n n' c c' : Nat) (w : World) (hm : n ≤ maxLen) (hm' : n' ≤ maxLen) (h : 2000 < n ∨ 2000 < n') :
    Calls Tryz.prog 54 #[.slice A n c, .slice A' n' c'] w fun e w' => e = .returned (.tuple #[.pointer none, .int .i64 4]) ∧ Below w.heap.size w w' := by
  by_cases h1 : 2000 < n
  · have h2 : (2000 : Int) < (n : Int) := by omega
    clear h
    go_enter Tryz.func54, Tryz.ntmps54
    go_wp2
    go_ret2
    exact ⟨rfl, Below.refl _ _⟩
  · have h2 : decide ((2000 : Int) < (n : Int)) = false := by simp; omega
    have h3 : (2000 : Int) < (n' : Int) := by omega
    clear h
    go_enter Tryz.func54, Tryz.ntmps54
    go_wp2
    go_ret2
    exact ⟨rfl, Below.refl _ _⟩

theorem new_fin {w w1 w2 : World} {A A' : Option Addr} {c c' : Nat} {a b : List Int} (hla : a.length ≤ 2000) (hlb : b.length ≤ 2000) (hA : Nums w1 w1.heap.size A a.length a) (hA' : Nums w2 w2.heap.size A' b.length b) (h1 : Below w.heap.size w w1) (h2 : Below w1.heap.size w1 w2) (hq : ∀ q o, A = some ⟨q, o, none⟩ → q < w2.heap.size) (hq' : ∀ q o, A' = some ⟨q, o, none⟩ → q < w2.heap.size) :
    NewOut PairIs w (w2.alloc (.cells #[.slice A a.length c, .slice A' b.length c', .int .u32 0, .int .i32 0, .int .u32 0, .int .i64 0, .slice none 0 0] 112)) (.returned (.tuple #[.pointer (some ⟨w2.heap.size, 0, none⟩), .int .i64 0])) a b := by
  have hs : w.heap.size ≤ w2.heap.size := Nat.le_trans h1.size h2.size
  have hb2 : Below w.heap.size w w2 := h1.trans (h2.mono h1.size)
  have hA2 := (hA.below h2).more h2.size
  have hal : Below w2.heap.size w2 (w2.alloc (.cells #[.slice A a.length c, .slice A' b.length c', .int .u32 0, .int .i32 0, .int .u32 0, .int .i64 0, .slice none 0 0] 112)) := (Below.refl _ _).alloc (Nat.le_refl _) _
  refine ⟨w2.heap.size, fun k => k = w2.heap.size, rfl, ⟨fun k => Iff.rfl, hla, hlb, .inl ⟨A, c, A', c', _, _, Go.Deep.blk_alloc_new _ _, (hA2.below hal).more hal.size, (hA'.below hal).more hal.size, ?_, ?_⟩⟩, fun k e => by omega, hb2.alloc hs _⟩
  · intro q o e h
    have := hq q o e
    omega
  · intro q o e h
    have := hq' q o e
    omega

theorem own_at {w : World} {base n : Nat} {e : TypeId} {A : Option Addr} {c : Nat} {xs : List Value} (h : w.ownsRow base e 1 (.slice A n c) n xs) : ∀ q o, A = some ⟨q, o, none⟩ → q < w.heap.size := by
  rintro q o rfl
  exact (h.lt q rfl).2

set_option maxHeartbeats 800000 in
theorem new_ok' (A A' : Option Addr) (n n' c c' : Nat) (a b : List Int) (w : World) (hn : n ≤ 2000) (hn' : n' ≤ 2000) (hA : Nums w w.heap.size A n a) (hA' : Nums w w.heap.size A' n' b) :
    Calls Tryz.prog 54 #[.slice A n c, .slice A' n' c'] w fun e w' => NewOut PairIs w w' e a b := by
  have hl := hA.len
  have hl' := hA'.len
  subst hl
  subst hl'
  have hc1 := Lib.hid (clone_any A a.length c w.heap.size a w hn (Nat.le_refl _) hA)
  have hA'' := Lib.hid hA'
  have h1 : decide ((2000 : Int) < (a.length : Int)) = false := by simp; omega
  have h2 : ¬ ((2000 : Int) < (b.length : Int)) := by omega
  have tok1 := trivial
  clear hA hA'
  go_enter Tryz.func54, Tryz.ntmps54
  go_wp2_with (go_at_call 59; first
    | (have _t := tok1; refine hc1.out.mono ?_; rintro e w1 ⟨v1, rfl, hown1, hb1⟩; obtain ⟨A1, c1, rfl, -, -, k1⟩ := nums_of_own hown1; have hc2 := Lib.hid (clone_any A' b.length c' w.heap.size b w1 hn' hb1.size (hA''.out.below hb1)); clear tok1)
    | (refine hc2.out.mono ?_; rintro e w2 ⟨v2, rfl, hown2, hb2⟩; obtain ⟨A2, c2, rfl, -, -, k2⟩ := nums_of_own hown2))
  go_ret2
  exact new_fin hn hn' k1 k2 hb1 hb2 (fun q o e => Nat.lt_of_lt_of_le (own_at hown1 q o e) hb2.size) (own_at hown2)

theorem pair_kept {w w' : World} {T : Nat} {F : Nat → Prop} {a b : List Int} (h : PairIs w T F a b) (hb : Below w.heap.size w w') : PairIs w' T F a b := by
  obtain ⟨h1, h2, h3, h | h⟩ := h
  · exact ⟨h1, h2, h3, .inl (h.below hb)⟩
  · exact ⟨h1, h2, h3, .inr (h.below hb)⟩

end Go.Proofs.YticgjbckfpkpjaaGreat
/- Proved here: pairs of lists that lie in blocks of their own; the contracts of the landed lcs.New and Match, with where things lie. -/
namespace Go.Proofs.YticgjbckfpkpjaaGreat
open Go.RowKit
set_option linter.unusedVariables false
set_option maxRecDepth 100000

/-- Block T is the pair of a and b, whatever becomes of the blocks that aren't from lo up to hi. -/
structure PairK (w : World) (T lo hi : Nat) (a b : List Int) : Prop where
  le : lo ≤ T
  lt : T < hi
  top : hi ≤ w.heap.size
  pair : ∀ w2 : World, w.heap.size ≤ w2.heap.size → (∀ k, lo ≤ k → k < hi → w2.heap[k]? = w.heap[k]?) → PairIs w2 T (fun k => k = T) a b
theorem PairK.keep {w w' : World} {T lo hi : Nat} {a b : List Int} (h : PairK w T lo hi a b) (hs : w.heap.size ≤ w'.heap.size) (hk : ∀ k, lo ≤ k → k < hi → w'.heap[k]? = w.heap[k]?) : PairK w' T lo hi a b :=
  ⟨h.le, h.lt, Nat.le_trans h.top hs, fun w2 h2 k2 => h.pair w2 (Nat.le_trans hs h2) fun k e1 e2 => (k2 k e1 e2).trans (hk k e1 e2)⟩
theorem PairK.is {w : World} {T lo hi : Nat} {a b : List Int} (h : PairK w T lo hi a b) : PairIs w T (fun k => k = T) a b := h.pair w (Nat.le_refl _) fun _ _ _ => rfl

/-- What New tells of two lists that may be, with where the pair lies. -/
def NewK (w w' : World) (e : Ending) (a b : List Int) : Prop := ∃ T, e = .returned (.tuple #[.pointer (some ⟨T, 0, none⟩), .int .i64 0]) ∧ PairK w' T w.heap.size w'.heap.size a b ∧ Below w.heap.size w w'

theorem nums_in {w w2 : World} {lo hi n : Nat} {A : Option Addr} {xs : List Int} (h : Nums w w.heap.size A n xs) (hq : ∀ q o, A = some ⟨q, o, none⟩ → lo ≤ q ∧ q < hi) (hs : w.heap.size ≤ w2.heap.size) (hk : ∀ k, lo ≤ k → k < hi → w2.heap[k]? = w.heap[k]?) : Nums w2 w2.heap.size A n xs := by
  refine ⟨h.1, fun hn => ?_⟩
  obtain ⟨b, o, rfl, hlt, hc⟩ := h.2 hn
  obtain ⟨q1, q2⟩ := hq b o rfl
  exact ⟨b, o, rfl, by omega, fun j u hu => (World.cell?_of_block (w := w) (hk b q1 q2)).trans (hc j u hu)⟩

theorem newk_fin {w w1 w2 : World} {A A' : Option Addr} {c c' : Nat} {a b : List Int} (hla : a.length ≤ 2000) (hlb : b.length ≤ 2000) (hA : Nums w1 w1.heap.size A a.length a) (hA' : Nums w2 w2.heap.size A' b.length b) (h1 : Below w.heap.size w w1) (h2 : Below w1.heap.size w1 w2)
    (hq : ∀ q o, A = some ⟨q, o, none⟩ → w.heap.size ≤ q ∧ q < w2.heap.size) (hq' : ∀ q o, A' = some ⟨q, o, none⟩ → w.heap.size ≤ q ∧ q < w2.heap.size) :
    NewK w (w2.alloc (.cells #[.slice A a.length c, .slice A' b.length c', .int .u32 0, .int .i32 0, .int .u32 0, .int .i64 0, .slice none 0 0] 112)) (.returned (.tuple #[.pointer (some ⟨w2.heap.size, 0, none⟩), .int .i64 0])) a b := by
  have hs : w.heap.size ≤ w2.heap.size := Nat.le_trans h1.size h2.size
  have hb2 : Below w.heap.size w w2 := h1.trans (h2.mono h1.size)
  have hA2 := (hA.below h2).more h2.size
  have hal : Below w2.heap.size w2 (w2.alloc (.cells #[.slice A a.length c, .slice A' b.length c', .int .u32 0, .int .i32 0, .int .u32 0, .int .i64 0, .slice none 0 0] 112)) := (Below.refl _ _).alloc (Nat.le_refl _) _
  have hz : (w2.alloc (.cells #[.slice A a.length c, .slice A' b.length c', .int .u32 0, .int .i32 0, .int .u32 0, .int .i64 0, .slice none 0 0] 112)).heap.size = w2.heap.size + 1 := by simp
  refine ⟨w2.heap.size, rfl, ⟨hs, by rw [hz]; omega, Nat.le_refl _, fun w3 h3 k3 => ⟨fun k => Iff.rfl, hla, hlb, .inl ⟨A, c, A', c', .int .i64 0, .slice none 0 0, ?_, ?_, ?_, ?_, ?_⟩⟩⟩, hb2.alloc hs _⟩
  · rw [k3 _ hs (by rw [hz]; omega)]
    exact Go.Deep.blk_alloc_new _ _
  · exact nums_in ((hA2.below hal).more hal.size) (fun q o e => ⟨(hq q o e).1, by have := (hq q o e).2; rw [hz]; omega⟩) h3 k3
  · exact nums_in ((hA'.below hal).more hal.size) (fun q o e => ⟨(hq' q o e).1, by have := (hq' q o e).2; rw [hz]; omega⟩) h3 k3
  · intro q o e h
    have := (hq q o e).2
    omega
  · intro q o e h
    have := (hq' q o e).2
    omega

theorem own_from {w : World} {base n : Nat} {e : TypeId} {A : Option Addr} {c : Nat} {xs : List Value} (h : w.ownsRow base e 1 (.slice A n c) n xs) : ∀ q o, A = some ⟨q, o, none⟩ → base ≤ q ∧ q < w.heap.size := by
  rintro q o rfl
  exact h.lt q rfl

set_option maxHeartbeats 800000 in
theorem newK_any (A A' : Option Addr) (n n' c c' : Nat) (a b : List Int) (w : World) (hn : n ≤ 2000) (hn' : n' ≤ 2000) (hA : Nums w w.heap.size A n a) (hA' : Nums w w.heap.size A' n' b) :
    Calls Tryz.prog 54 #[.slice A n c, .slice A' n' c'] w fun e w' => NewK w w' e a b := by
  have hl := hA.len
  have hl' := hA'.len
  subst hl
  subst hl'
  have hc1 := Lib.hid (clone_any A a.length c w.heap.size a w hn (Nat.le_refl _) hA)
  have hA'' := Lib.hid hA'
  have h1 : decide ((2000 : Int) < (a.length : Int)) = false := by simp; omega
  have h2 : ¬ ((2000 : Int) < (b.length : Int)) := by omega
  have tok1 := trivial
  clear hA hA'
  go_enter Tryz.func54, Tryz.ntmps54
  go_wp2_with (go_at_call 59; first
    | (have _t := tok1; refine hc1.out.mono ?_; rintro e w1 ⟨v1, rfl, hown1, hb1⟩; obtain ⟨A1, c1, rfl, -, -, k1⟩ := nums_of_own hown1; have hc2 := Lib.hid (clone_any A' b.length c' w.heap.size b w1 hn' hb1.size (hA''.out.below hb1)); clear tok1)
    | (refine hc2.out.mono ?_; rintro e w2 ⟨v2, rfl, hown2, hb2⟩; obtain ⟨A2, c2, rfl, -, -, k2⟩ := nums_of_own hown2))
  go_ret2
  exact newk_fin hn hn' k1 k2 hb1 hb2 (fun q o e => ⟨(own_from hown1 q o e).1, Nat.lt_of_lt_of_le (own_from hown1 q o e).2 hb2.size⟩) (fun q o e => ⟨Nat.le_trans hb1.size (own_from hown2 q o e).1, (own_from hown2 q o e).2⟩)

/-- What Match tells, with where the match lies. -/
def MatchK (w w' : World) (e : Ending) (T : Nat) (a b : List Int) : Prop :=
  ∃ A c, e = .returned (.slice A a.length c) ∧ a.length ≤ c ∧ c ≤ maxLen ∧ Nums w' w'.heap.size A a.length (mt a b 0) ∧ (∀ q o, A = some ⟨q, o, none⟩ → w.heap.size ≤ q) ∧ But (fun k => k = T) w w'

set_option maxHeartbeats 400000 in
theorem matchK_any (T : Nat) (a b : List Int) (w : World) (h : PairIs w T (fun k => k = T) a b) :
    Calls Tryz.prog 31 #[.pointer (some ⟨T, 0, none⟩)] w fun e w' => MatchK w w' e T a b := by
  have hd := Lib.hid (pair_do T _ a b w h)
  have hh := Lib.hid h
  have hla := h.2.1
  clear h
  go_enter Tryz.func31, Tryz.ntmps31
  go_wp2_with (first
    | (go_at_call 57; refine hd.out.mono ?_; rintro e w1 ⟨rfl, hD, hb⟩; have hD' := Lib.hid hD; have hlt := hD.lt; obtain ⟨M, cM, hT, hN, hne⟩ := hD; have c6 : w1.cell? ⟨T, 6, none⟩ = some (.slice M a.length cM) := (by rw [cells_of hT]; rfl); have hcl := Lib.hid (clone_any M a.length cM w1.heap.size (mt a b 0) w1 hla (Nat.le_refl _) hN); clear hT hN hne)
    | (go_at_call 59; refine hcl.out.mono ?_; rintro e w2 ⟨v, rfl, hown, hb2⟩; obtain ⟨Ao, co, rfl, k1, k2, k3⟩ := nums_of_own hown))
  go_ret
  refine ⟨Ao, co, rfl, k1, k2, k3, fun q o e => Nat.le_trans hb.size (own_from hown q o e).1, (hb.trans (But.of_below hb2 fun k hk _ => hk) (F' := fun k => k = T) fun k e => .inl e)⟩
end Go.Proofs.YticgjbckfpkpjaaGreat
/- Proved here: the contract of the landed merge.pairUp: the first list is paired with each other one. -/
namespace Go.Proofs.YticgjbckfpkpjaaGreat
open Go.RowKit
set_option linter.unusedVariables false
set_option maxRecDepth 100000

/-- All but the first list. -/
theorem slice1_nums {w : World} {B n c : Nat} {A : Option Addr} {r : Option Addr × Nat × Nat} {rows : List (Option Addr × Nat × Nat)} {xs : List Int} {xss : List (List Int)} (h : RowsN w B A n (r :: rows) (xs :: xss)) (hn : n ≤ c) (hc : c ≤ maxLen) :
    ∃ A' m k, (∀ W : World, (Instr.slice 67 (.slice A n c) (some (.int .i64 1)) none none).run Tryz.prog W = .ok (.slice A' m k) W) ∧ RowsN w B A' m rows xss := by
  have hl := h.len
  rw [List.length_cons] at hl
  have hrl := h.2.1
  simp only [List.length_cons] at hrl
  refine ⟨(if c = 1 then A else A.map (·.add 1)), n - 1, c - 1, fun W => ?_, ⟨⟨by rw [List.length_map]; omega, fun hn1 => ?_⟩, by omega, fun k r' ss' h1 h2 => h.2.2 (k + 1) r' ss' (by simpa using h1) (by simpa using h2)⟩⟩
  · rw [run_slice_l (P := Tryz.prog) W 67 A n c Tryz.underlying67 .i64 1 (by omega) (by omega)]
    go_simp
  · obtain ⟨b, o, rfl, hb, hcell⟩ := h.1.2 (by omega)
    rw [if_neg (by omega)]
    refine ⟨b, o + 1, ?_, hb, fun j u hu => ?_⟩
    · simp only [Option.map_some]
      unfold Addr.add
      split
      · rename_i h
        cases h
      · rfl
    · rw [Nat.add_assoc, Nat.add_comm 1 j]
      exact hcell (j + 1) u (by simpa using hu)

/-- The pairs of a with all lists, in turn. -/
structure PairsK (w : World) (G n : Nat) (T lo hi : Nat → Nat) (a : List Int) (bs : List (List Int)) (k : Nat) : Prop where
  row : w.rowIs G 70 n (fun i => if i < k then .pointer (some ⟨T i, 0, none⟩) else .pointer none)
  pair : ∀ i b, i < k → bs[i]? = some b → PairK w (T i) (lo i) (hi i) a b ∧ G < lo i
  apart : ∀ i j, i < j → j < k → hi i ≤ lo j

theorem pairs_step {w w1 : World} {G n k T0 : Nat} {T lo hi : Nat → Nat} {a b : List Int} {bs : List (List Int)} (hn : bs.length = n) (h : PairsK w G n T lo hi a bs k) (hk : bs[k]? = some b) (hP : PairK w1 T0 w.heap.size w1.heap.size a b) (hB : Below w.heap.size w w1) :
    w1.rowIs G 70 n (fun i => if i < k then .pointer (some ⟨T i, 0, none⟩) else .pointer none) ∧
    PairsK (w1.setCell ⟨G, k, none⟩ (.pointer (some ⟨T0, 0, none⟩))) G n (fun i => if i = k then T0 else T i) (fun i => if i = k then w.heap.size else lo i) (fun i => if i = k then w1.heap.size else hi i) a bs (k + 1) := by
  have hG := h.row.lt
  have hrow := h.row.of_block (hB.block G hG)
  have hset : ∀ j, j ≠ G → (w1.setCell ⟨G, k, none⟩ (.pointer (some ⟨T0, 0, none⟩))).heap[j]? = w1.heap[j]? := fun j hj => Below.heap_setCell _ _ _ _ hj
  have hsz : (w1.setCell ⟨G, k, none⟩ (.pointer (some ⟨T0, 0, none⟩))).heap.size = w1.heap.size := by simp [World.setCell]
  refine ⟨hrow, ?_, ?_, ?_⟩
  · refine (hrow.set k _).congr fun j hj => ?_
    rcases Nat.lt_trichotomy j k with h | rfl | h
    · rw [if_neg (by omega), if_pos h, if_pos (by omega)]; (try dsimp only); rw [if_neg (by omega)]
    · rw [if_pos rfl, if_pos (by omega)]; (try dsimp only); rw [if_pos rfl]
    · rw [if_neg (by omega), if_neg (by omega), if_neg (by omega)]
  · intro i b' hi hb'
    by_cases e : i = k
    · subst e
      rw [hk] at hb'
      injection hb' with hb'
      subst hb'
      try dsimp only
      rw [if_pos rfl, if_pos rfl, if_pos rfl]
      exact ⟨hP.keep (by omega) (fun j j1 j2 => hset j (by omega)), hG⟩
    · try dsimp only
      rw [if_neg e, if_neg e, if_neg e]
      obtain ⟨p1, p2⟩ := h.pair i b' (by omega) hb'
      have := p1.top
      have := hB.size
      exact ⟨p1.keep (by omega) (fun j j1 j2 => (hset j (by omega)).trans (hB.block j (by omega))), p2⟩
  · intro i j hij hj
    try dsimp only
    by_cases e : j = k
    · subst e
      rw [if_neg (by omega), if_pos rfl]
      have hb' : bs[i]? = some (bs[i]'(by have := (List.getElem?_eq_some_iff.1 hk).1; omega)) := List.getElem?_eq_getElem _
      exact (h.pair i _ hij hb').1.top
    · rw [if_neg (by omega), if_neg e]
      exact h.apart i j hij (by omega)

/-- What pairUp tells of lists that may be. -/
def PairsOut (w w' : World) (e : Ending) (a : List Int) (bs : List (List Int)) : Prop :=
  ∃ G n T lo hi, e = .returned (.tuple #[.slice (some ⟨G, 0, none⟩) n n, .int .i64 0]) ∧ n = bs.length ∧ PairsK w' G n T lo hi a bs n ∧ w.heap.size ≤ G ∧ Below w.heap.size w w'

theorem infoPair : (Tryz.prog.info? 70).map (fun i => (i.zero, i.size, i.bytes)) = some (some (.pointer none), 1, 8) := by kernel_rfl

set_option maxHeartbeats 1000000 in
theorem pairUp_any (A : Option Addr) (n0 c : Nat) (r : Option Addr × Nat × Nat) (rows : List (Option Addr × Nat × Nat)) (a : List Int) (bs : List (List Int)) (w : World) (hc : n0 ≤ c) (hcm : c ≤ maxLen) (hn : n0 ≤ 1000) (ha : a.length ≤ 2000) (hb : ∀ b ∈ bs, b.length ≤ 2000) (hA : RowsN w w.heap.size A n0 (r :: rows) (a :: bs)) :
    Calls Tryz.prog 29 #[.slice A n0 c] w fun e w' => PairsOut w w' e a bs := by
  have hl := hA.len
  rw [List.length_cons] at hl
  obtain ⟨n, hnl⟩ : ∃ n, bs.length = n := ⟨_, rfl⟩
  obtain ⟨A1, m, k1, hs, hR⟩ := slice1_nums hA hc hcm
  obtain rfl : m = n := by have := hR.len; omega
  obtain ⟨g, o, A0, na, ca, xs, rfl, hg, hx, hc0, hN0⟩ := hA.at_ (k := 0) (by omega)
  obtain rfl : a = xs := by simpa using hx
  have hna := hN0.len
  have hRh := Lib.hid hR
  have hN0h := Lib.hid hN0
  have hbh := Lib.hid hb
  have hnlh := Lib.hid hnl
  rw [Nat.add_zero] at hc0
  have hmk := run_make_row' (P := Tryz.prog) 64 70 (.pointer none) 8 Tryz.underlying64 infoPair rfl .i64 .i64 m (by omega) (by omega)
  have hsub : (n0 : Int) - 1 = (m : Int) := by omega
  have h0n : ¬ (n0 : Int) ≤ 0 := by omega
  have hB0 : Below w.heap.size w (w.alloc (.cells (madeCells #[.pointer none] m) 70)) := (Below.refl _ _).alloc (Nat.le_refl _) _
  have hrow0 : (w.alloc (.cells (madeCells #[.pointer none] m) 70)).rowIs w.heap.size 70 m (fun i => .pointer none) := World.rowIs_made w (.pointer none) m _
  have hst : Hid (PairsK (w.alloc (.cells (madeCells #[.pointer none] m) 70)) w.heap.size m (fun _ => 0) (fun _ => 0) (fun _ => 0) a bs 0) :=
    Lib.hid ⟨hrow0.congr fun j _ => by rw [if_neg (by omega)], fun i b hi => by omega, fun i j _ hj => by omega⟩
  have hB0h := Lib.hid hB0
  clear hA hR hb hN0 hx hnl hrow0 hB0
  go_enter Tryz.func29, Tryz.ntmps29
  go_wp2
  go_loopw [16] (fun i wr => ∃ k : Nat, k ≤ m ∧ i = .int .i64 k ∧ Hid (∃ T lo hi, PairsK wr w.heap.size m T lo hi a bs k) ∧ Below w.heap.size w wr) (fun i _ => m - (intOf i).toNat)
  case atStart => exact ⟨0, Nat.zero_le _, rfl, Lib.hid ⟨_, _, _, hst.out⟩, hB0h.out⟩
  case round =>
    obtain ⟨k, hk, rfl, hP, hB⟩ := hrel
    obtain ⟨wo, rfl⟩ : ∃ wo : World, wo = wr := ⟨_, rfl⟩
    by_cases hlt : k < m
    · obtain ⟨b1, o1, A2, n2, c2, ys, rfl, hb1, hy, hc1, hN1⟩ := (hRh.out.below hB).at_ (k := k) hlt
      have hc0' := (hB.cell (p := ⟨g, o, none⟩) hg).trans hc0
      have hn2 := hN1.len
      have hy2 := hbh.out ys (List.mem_of_getElem? hy)
      have hsz := hB.size
      have hC := Lib.hid (newK_any A0 A2 na n2 ca c2 a ys wo (by omega) (by omega) ((hN0h.out.below hB).more hsz) (hN1.more hsz))
      obtain ⟨T, lo, hi, hPK⟩ := hP.out
      have hstep := Lib.hid (fun w1 T0 => pairs_step (w1 := w1) (T0 := T0) hnlh.out hPK hy)
      have hBh := Lib.hid hB
      have hk1 : (0 : Int) ≤ (k : Int) := by omega
      have hk2 : (k : Int) < (m : Int) := by omega
      clear hP hPK hy hN1 hB
      go_wp2_with (go_at_call 54; refine hC.out.mono ?_; rintro e w1 ⟨T0, rfl, hP0, hb1⟩; have hs2 := Lib.hid (hstep.out w1 T0 hP0 hb1); have hck : w1.cell? ⟨w.heap.size, k, none⟩ = some (.pointer none) := (by rw [hs2.out.1.cell (i := k) hlt]; simp); have hfk := hs2.out.1.frozen k; have hBn := Lib.hid ((hBh.out.trans (hb1.mono hBh.out.size)).setCell (p := ⟨w.heap.size, k, none⟩) (Nat.le_refl _) (.pointer (some ⟨T0, 0, none⟩))); clear hP0 hb1)
      go_roundw
      case rel => exact ⟨k + 1, by omega, by go_num, Lib.hid ⟨_, _, _, hs2.out.2⟩, hBn.out⟩
      case measure => simp [intOf]; omega
    · obtain rfl : k = m := by omega
      go_wp2
      go_ret2
      obtain ⟨T, lo, hi, hPK⟩ := hP.out
      exact ⟨_, _, T, lo, hi, rfl, hnlh.out.symm, hPK, Nat.le_refl _, hB⟩
end Go.Proofs.YticgjbckfpkpjaaGreat
