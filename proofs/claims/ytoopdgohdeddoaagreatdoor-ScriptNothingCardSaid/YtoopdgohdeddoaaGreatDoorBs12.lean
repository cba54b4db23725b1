/- Proved here: texts joined: ScrOver, ScrBr, AlignPlain. -/
import Derived.Test.YtoopdgohdeddoaaGreatDoorBs04
import Derived.Test.YtoopdgohdeddoaaGreatDoorBs11
/- Proved here: the contracts of the document's own answers of layer 16: over, take. -/
namespace Go.Proofs.YtoopdgohdeddoaaGreatDoor
open Go.RowKit
set_option linter.unusedVariables false
set_option maxRecDepth 100000

theorem lin_len (m n : Nat) : (linesD m n).length ≤ m + n + 3 := by
  have h1 := fig_len m
  have h2 := fig_len n
  unfold linesD
  split
  · omega
  · rw [List.length_append, List.length_cons]; omega
theorem block_ln (l : Txs) : (blockD l).length = l.length + 1 := block_len
theorem over_len (l : Txs) (k : Nat) : (overD l k).length ≤ l.length + 2 := by
  unfold overD
  rw [List.length_append, block_ln]
  split
  · rw [List.length_singleton]; omega
  · simp
set_option maxHeartbeats 4000000 in
theorem rOver_any (A : Option Addr) (n c : Nat) (l : Txs) (line : Nat) (w : World) (hsm : smallD l) (h1 : 1 ≤ line) (h2 : line ≤ 200000) (hA : TxR w w.heap.size (A, n, c) l) :
    Calls Tryz.prog 54 #[.slice A n c, .int .i64 (line : Int)] w fun e w' => OwnT w w' e (overD l line) := by
  have hl := hA.2.2.len
  dsimp only at hl
  have hn : n ≤ 100000 := by rw [← hl]; exact hsm.1
  obtain ⟨i0, hi, hzz⟩ := Option.map_eq_some_iff.1 infoStr
  simp only [Prod.mk.injEq] at hzz
  obtain ⟨hz0, hz1, hz2⟩ := hzz
  have hB := Lib.hid (rBlock_own A n c l w hsm hA)
  have hD := Lib.hid (fun (W : World) (hb : Below w.heap.size w W) => rDotted_any A n c W.heap.size l W hn hsm.2 (hA.up hb).2.2)
  have hL := Lib.hid (fun W : World => rLines_any line (line + l.length - 1) W (by omega) (by omega))
  have hbl := Lib.hid (block_ln l)
  have hov : Hid (overD l line = blockD l ++ if dottedB l = true then [linesD line (line + l.length - 1) ++ subT] else []) := Lib.hid rfl
  obtain ⟨p, hp⟩ : ∃ p, dottedB l = p := ⟨_, rfl⟩
  obtain ⟨L, hLL⟩ : ∃ L, str (linesD line (line + l.length - 1)) = L := ⟨_, rfl⟩
  obtain ⟨T, hT⟩ : ∃ T, overD l line = T := ⟨_, rfl⟩
  have hLs : L.size ≤ 1000000 := by rw [← hLL, str_size]; have := lin_len line (line + l.length - 1); omega
  have hsub : Hid (L ++ ⟨#[115, 47, 94, 92, 46, 47, 47, 10]⟩ = str (linesD line (line + l.length - 1) ++ subT)) := Lib.hid (by rw [← hLL, ← strs_app]; rfl)
  rw [hp] at hD hov
  rw [hLL] at hL
  rw [hT] at hov ⊢
  obtain ⟨ls, hls⟩ : ∃ ls, linesD line (line + l.length - 1) ++ subT = ls := ⟨_, rfl⟩
  rw [hls] at hov hsub
  have hll := Lib.hid hl
  have e0 : ((line + n - 1 : Nat) : Int) = (line : Int) + (n : Int) - 1 := by omega
  rw [hl, e0] at hL
  have hw1 : IntKind.i64.wrap ((line : Int) + (n : Int)) = (line : Int) + (n : Int) := IntWalk.i64_in _ (by omega)
  have hw2 : IntKind.i64.wrap ((line : Int) + (n : Int) - 1) = (line : Int) + (n : Int) - 1 := IntWalk.i64_in _ (by omega)
  have hov8 : ¬ 9223372036854775807 < L.size + 8 := by omega
  have hnh : Hid (n ≤ 100000) := Lib.hid hn
  clear hp hLL hT hls hA hsm hl e0
  go_enter Tryz.func54, Tryz.ntmps54
  cases p
  · go_wp2_with (first
      | (go_at_call 92; refine hB.out.mono ?_; rintro e w1 ⟨v1, rfl, q1⟩; have hO1 := Lib.hid q1; clear q1 hB)
      | (go_at_call 93; refine (hD.out _ hO1.out.below).mono ?_; rintro e w2 ⟨rfl, hww⟩; have hws := hww.symm; clear hww; subst hws))
    go_ret
    exact ⟨_, rfl, by rw [hov.out, if_neg (by decide), List.append_nil]; exact hO1.out⟩
  · go_wp2_with (first
      | (go_at_call 92; refine hB.out.mono ?_; rintro e w1 ⟨v1, rfl, q1⟩; have hO1 := Lib.hid q1; clear q1 hB)
      | (go_at_call 93; refine (hD.out _ hO1.out.below).mono ?_; rintro e w2 ⟨rfl, hww⟩; have hws := hww.symm; clear hww; subst hws)
      | (go_at_call 52; refine (hL.out _).mono ?_; rintro e w3 ⟨rfl, q3⟩; have hO3 := Lib.hid (hO1.out.call q3); clear q3)
      | (at_builtin; refine wpList_append_own_at _ rfl (.tmp 10) (.tmp 19) 22 rfl w.heap.size 9 i0 (.string ByteArray.empty) 1 16 Tryz.underlying22 hi hz0 hz1 hz2 rfl (by decide) v1 _ _ rfl (hO3.out.own.alloc _) ⟨w3.heap.size, 0, none⟩ 1 1 [.string (L ++ ⟨#[115, 47, 94, 92, 46, 47, 47, 10]⟩)] rfl rfl (cell_one_new _ _ _) (by simp [Value.oneCell']) (by rw [hbl.out, hll.out]; have := hnh.out; unfold maxLen; omega) (by rw [hbl.out, hll.out]; have := hnh.out; omega) (by have := hO3.out.below.size; simp; omega) ?_; intro v4 w4 hown4 hg4 hnil4 hloc4; rw [hsub.out] at hown4 hg4; have hO4 := Lib.hid (hO3.out.push hown4 hg4); clear hown4 hg4 hnil4 hloc4))
    go_ret
    have e : blockD l ++ [ls] = T := by rw [hov.out]; simp
    have q := hO4.out
    rw [e] at q
    exact ⟨_, rfl, q⟩
theorem OwnT.base {w w1 w' : World} {e : Ending} {xs : Txs} (h : OwnT w1 w' e xs) (hb : Below w.heap.size w w1) : OwnT w w' e xs := by
  obtain ⟨v, rfl, h1, h2⟩ := h
  exact ⟨v, rfl, own_lower h1 hb.size, hb.trans (h2.mono hb.size)⟩
theorem TxO.base {w w1 w' : World} {v : Value} {xs : Txs} (h : TxO w1 w' v xs) (hb : Below w.heap.size w w1) : TxO w w' v xs := ⟨own_lower h.own hb.size, hb.trans (h.below.mono hb.size)⟩
set_option maxHeartbeats 4000000 in
theorem rTake_any (f t : Nat) (A : Option Addr) (n c : Nat) (l : Txs) (w : World) (hsm : smallD l) (h1 : f ≤ 100000) (h2 : t ≤ 100000) (hA : TxR w w.heap.size (A, n, c) l) :
    Calls Tryz.prog 28 #[.int .i64 ((f + 1 : Nat) : Int), .int .i64 (t : Int), .slice A n c] w fun e w' => OwnT w w' e (takeD f t l) := by
  have hl := hA.2.2.len
  dsimp only at hl
  have hn : n ≤ 100000 := by rw [← hl]; exact hsm.1
  obtain ⟨i0, hi, hzz⟩ := Option.map_eq_some_iff.1 infoStr
  simp only [Prod.mk.injEq] at hzz
  obtain ⟨hz0, hz1, hz2⟩ := hzz
  have hL := Lib.hid (fun W : World => rLines_any (f + 1) t W (by omega) (by omega))
  have hF := Lib.hid (fun W : World => rFigures_any t W (by omega))
  have hOv := Lib.hid (fun (k : Nat) (W : World) (hk : 1 ≤ k ∧ k ≤ 200000) (hb : Below w.heap.size w W) => rOver_any A n c l k W hsm hk.1 hk.2 (hA.up hb))
  obtain ⟨L, hLL⟩ : ∃ L, str (linesD (f + 1) t) = L := ⟨_, rfl⟩
  obtain ⟨G, hG⟩ : ∃ G, str (figD t) = G := ⟨_, rfl⟩
  obtain ⟨T, hT⟩ : ∃ T, takeD f t l = T := ⟨_, rfl⟩
  have hLs : L.size ≤ 1000000 := by rw [← hLL, str_size]; have := lin_len (f + 1) t; omega
  have hGs : G.size ≤ 1000000 := by rw [← hG, str_size]; have := fig_len t; omega
  have hov2 : ¬ 9223372036854775807 < L.size + 2 := by omega
  have hov3 : ¬ 9223372036854775807 < G.size + 2 := by omega
  have hd : Hid (L ++ ⟨#[100, 10]⟩ = str (linesD (f + 1) t ++ [100, 10])) := Lib.hid (by rw [← hLL, ← strs_app]; rfl)
  have hc : Hid (L ++ ⟨#[99, 10]⟩ = str (linesD (f + 1) t ++ [99, 10])) := Lib.hid (by rw [← hLL, ← strs_app]; rfl)
  have ha : Hid (G ++ ⟨#[97, 10]⟩ = str (figD t ++ [97, 10])) := Lib.hid (by rw [← hG, ← strs_app]; rfl)
  have hTT : Hid (T = if l = [] then [linesD (f + 1) t ++ [100, 10]] else if t ≤ f then (figD t ++ [97, 10]) :: overD l (t + 1) else (linesD (f + 1) t ++ [99, 10]) :: overD l (f + 1)) := Lib.hid hT.symm
  have hol := Lib.hid (fun k => over_len l k)
  have hll := Lib.hid hl
  have hnh : Hid (n ≤ 100000) := Lib.hid hn
  rw [hLL] at hL
  rw [hG] at hF
  rw [hT]
  clear hLL hG hT hA hsm
  by_cases hz : n = 0
  · subst hz
    have e : l = [] := List.length_eq_zero_iff.1 hl
    have hq : Hid (T = [linesD (f + 1) t ++ [100, 10]]) := Lib.hid (by rw [hTT.out, if_pos e])
    go_enter Tryz.func28, Tryz.ntmps28
    go_wp2_with (go_at_call 52; refine (hL.out _).mono ?_; rintro e w1 ⟨rfl, q1⟩; have hB1 := Lib.hid q1; clear q1)
    go_ret
    have q := (TxO.lit w1 (linesD (f + 1) t ++ [100, 10])).base hB1.out
    rw [← hd.out, ← hq.out] at q
    exact ⟨_, rfl, q⟩
  · have hne : l ≠ [] := by rintro rfl; exact hz (by rw [← hl]; rfl)
    have hnz : ((n : Int) == 0) = false := by rw [beq_eq_false_iff_ne]; omega
    clear hl
    by_cases hft : t ≤ f
    · have hq : Hid ([figD t ++ [97, 10]] ++ overD l (t + 1) = T) := Lib.hid (by rw [hTT.out, if_neg hne, if_pos hft]; rfl)
      have hgt : (t : Int) < ((f + 1 : Nat) : Int) := by omega
      have hw1 : IntKind.i64.wrap ((t : Int) + 1) = ((t + 1 : Nat) : Int) := by rw [IntWalk.i64_in _ (by omega)]; omega
      have hO := Lib.hid (fun (W : World) (hb : Below w.heap.size w W) => hOv.out (t + 1) W (by omega) hb)
      have hln := Lib.hid (hol.out (t + 1))
      clear hTT hOv hol hne
      go_enter Tryz.func28, Tryz.ntmps28
      go_upto_region 5 with (go_at_call 53; refine (hF.out _).mono ?_; rintro e w1 ⟨rfl, q1⟩; have hB1 := Lib.hid q1; clear q1)
      have hO1 := Lib.hid ((TxO.lit w1 (figD t ++ [97, 10])).base hB1.out)
      rw [← ha.out] at hO1
      obtain ⟨W1, hW1⟩ : ∃ W1, W1 = w1.alloc (.cells #[.string (G ++ ⟨#[97, 10]⟩)] 9) := ⟨_, rfl⟩
      rw [← hW1] at hO1 ⊢
      clear hW1
      go_wp2_with (first
        | (go_at_call 54; refine (hO.out _ hO1.out.below).mono ?_; rintro e w3 ⟨u3, rfl, hu3⟩; have hO3 := Lib.hid (hO1.out.call hu3.below); obtain ⟨A5, c5, hv5, l1, l2, hr5⟩ := own_slice hu3.own; subst hv5; have hr5h := Lib.hid hr5; clear hu3 l1 l2 hr5)
        | (at_builtin; refine wpList_append_reads _ rfl (.tmp 24) (.tmp 28) 22 rfl w.heap.size 9 i0 (.string ByteArray.empty) 16 Tryz.underlying22 hi hz0 hz1 hz2 rfl _ 1 _ rfl hO3.out.own w3.heap.size A5 _ c5 _ rfl hr5h.out (strs_one _) (by have := hln.out; have := hll.out; unfold maxLen; omega) (by have := hln.out; have := hll.out; omega) hO3.out.below.size ?_; intro vz wz hown4 hg4; have hOz := Lib.hid (hO3.out.put (ys := overD l (t + 1)) rfl hown4 hg4); clear hown4 hg4 hr5h hO3))
      go_ret
      have q := hOz.out
      rw [hq.out] at q
      exact ⟨_, rfl, q⟩
    · have hq : Hid ([linesD (f + 1) t ++ [99, 10]] ++ overD l (f + 1) = T) := Lib.hid (by rw [hTT.out, if_neg hne, if_neg hft]; rfl)
      have hgt : ¬ (t : Int) < ((f + 1 : Nat) : Int) := by omega
      have hO := Lib.hid (fun (W : World) (hb : Below w.heap.size w W) => hOv.out (f + 1) W (by omega) hb)
      have hln := Lib.hid (hol.out (f + 1))
      clear hTT hOv hol hne
      go_enter Tryz.func28, Tryz.ntmps28
      go_upto_region 8 with (go_at_call 52; refine (hL.out _).mono ?_; rintro e w1 ⟨rfl, q1⟩; have hB1 := Lib.hid q1; clear q1)
      have hO1 := Lib.hid ((TxO.lit w1 (linesD (f + 1) t ++ [99, 10])).base hB1.out)
      rw [← hc.out] at hO1
      obtain ⟨W1, hW1⟩ : ∃ W1, W1 = w1.alloc (.cells #[.string (L ++ ⟨#[99, 10]⟩)] 9) := ⟨_, rfl⟩
      rw [← hW1] at hO1 ⊢
      clear hW1
      go_wp2_with (first
        | (go_at_call 54; refine (hO.out _ hO1.out.below).mono ?_; rintro e w3 ⟨u3, rfl, hu3⟩; have hO3 := Lib.hid (hO1.out.call hu3.below); obtain ⟨A5, c5, hv5, l1, l2, hr5⟩ := own_slice hu3.own; subst hv5; have hr5h := Lib.hid hr5; clear hu3 l1 l2 hr5)
        | (at_builtin; refine wpList_append_reads _ rfl (.tmp 36) (.tmp 39) 22 rfl w.heap.size 9 i0 (.string ByteArray.empty) 16 Tryz.underlying22 hi hz0 hz1 hz2 rfl _ 1 _ rfl hO3.out.own w3.heap.size A5 _ c5 _ rfl hr5h.out (strs_one _) (by have := hln.out; have := hll.out; unfold maxLen; omega) (by have := hln.out; have := hll.out; omega) hO3.out.below.size ?_; intro vz wz hown4 hg4; have hOz := Lib.hid (hO3.out.put (ys := overD l (f + 1)) rfl hown4 hg4); clear hown4 hg4 hr5h hO3))
      go_ret
      have q := hOz.out
      rw [hq.out] at q
      exact ⟨_, rfl, q⟩
end Go.Proofs.YtoopdgohdeddoaaGreatDoor
/- Proved here: the contract of the document's own answer of layer 16: bracket. -/
namespace Go.Proofs.YtoopdgohdeddoaaGreatDoor
open Go.RowKit
set_option linter.unusedVariables false
set_option maxRecDepth 100000

def oldT : Tx := [124, 124, 124, 124, 124, 124, 124, 32, 79, 76, 68, 69, 82, 10]
def eqT : Tx := [61, 61, 61, 61, 61, 61, 61, 10]
def yrsT : Tx := [62, 62, 62, 62, 62, 62, 62, 32, 89, 79, 85, 82, 83, 10]
def minT : Tx := [60, 60, 60, 60, 60, 60, 60, 32, 77, 73, 78, 69, 10]
theorem TxO.none_ (w w' : World) (hb : Below w.heap.size w w') : TxO w w' (.slice none 0 0) [] := ⟨World.ownsRow_nil _ _ _ _, hb⟩
theorem TxO.pushes {w wr w2 : World} {v v' : Value} {xs ys : Txs} {m : Nat} {o : Obj} (h : TxO w wr v xs) (hl : ys.length = m) (hown : w2.ownsRow w.heap.size 9 1 v' (xs.length + m) ((xs.map fun s => .string (str s)) ++ ys.map fun s => .string (str s))) (hg : (wr.alloc o).grownBy w2 v.ownBlock) : TxO w w2 v' (xs ++ ys) := by
  have hs := h.below.size
  refine ⟨?_, (h.below.alloc hs o).grown hg (by simp; omega) fun j e => (h.own.lt j e).1⟩
  rw [List.length_append, List.map_append, hl]
  exact hown
theorem cells_new (W : World) (a b c : Value) (t : TypeId) (j : Nat) (x : Value) (hx : ([a, b, c] : List Value)[j]? = some x) : (W.alloc (.cells #[a, b, c] t)).cell? ((⟨W.heap.size, 0, none⟩ : Addr).add j) = some x := by
  rw [show (⟨W.heap.size, 0, none⟩ : Addr).add j = ⟨W.heap.size, j, none⟩ from by unfold Addr.add; split <;> simp_all, cells_of (one_a W _)]
  simpa using hx
theorem TxO.rd {w wr : World} {A : Option Addr} {n c : Nat} {xs : Txs} (h : TxO w wr (.slice A n c) xs) : TxR wr wr.heap.size (A, n, c) xs ∧ xs.length = n := by
  obtain ⟨A', c', e, h1, h2, h3⟩ := own_slice h.own
  injection e with e1 e2 e3
  subst e1 e2 e3
  exact ⟨⟨h1, h2, h3⟩, rfl⟩
def laidP (b : Bool) (older : Txs) : Txs := match b with
  | true => [oldT] ++ older
  | false => []
theorem laid_eq (b : Bool) (older yours : Txs) : laidT b older yours = (laidP b older ++ [eqT] ++ yours) ++ [yrsT] := by
  unfold laidT laidP
  cases b <;> simp [oldT, eqT, yrsT]

set_option maxHeartbeats 8000000 in
theorem rBracket_any (f t : Nat) (A1 : Option Addr) (n1 c1 : Nat) (older : Txs) (A2 : Option Addr) (n2 c2 : Nat) (yours : Txs) (b : Bool) (w : World) (x1 : older.length ≤ 40000 ∧ ∀ s ∈ older, s.length ≤ 1000000) (x2 : yours.length ≤ 40000 ∧ ∀ s ∈ yours, s.length ≤ 1000000) (h1 : f ≤ 100000) (h2 : t ≤ 100000)
    (hA1 : TxR w w.heap.size (A1, n1, c1) older) (hA2 : TxR w w.heap.size (A2, n2, c2) yours) :
    Calls Tryz.prog 29 #[.int .i64 ((f + 1 : Nat) : Int), .int .i64 (t : Int), .slice A1 n1 c1, .slice A2 n2 c2, .bool b] w fun e w' => OwnT w w' e (bracketD f t b older yours) := by
  have hl1 := hA1.2.2.len
  have hl2 := hA2.2.2.len
  dsimp only at hl1 hl2
  obtain ⟨i0, hi, hzz⟩ := Option.map_eq_some_iff.1 infoStr
  simp only [Prod.mk.injEq] at hzz
  obtain ⟨hz0, hz1, hz2⟩ := hzz
  have hF := Lib.hid (fun W : World => rFigures_any t W (by omega))
  have hG := Lib.hid (fun W : World => rFigures_any f W (by omega))
  obtain ⟨X, hX⟩ : ∃ X, laidT b older yours = X := ⟨_, rfl⟩
  have hXs : smallD X := by
    rw [← hX, laid_eq]
    constructor
    · cases b <;> simp [laidP] <;> omega
    · intro s hs
      rw [List.mem_append, List.mem_append, List.mem_append, List.mem_singleton, List.mem_singleton] at hs
      rcases hs with ((hs | rfl) | hs) | rfl
      · cases b
        · cases hs
        · unfold laidP at hs
          rw [List.mem_append, List.mem_singleton] at hs
          rcases hs with rfl | hs
          · simp [oldT]
          · exact x1.2 s hs
      · simp [eqT]
      · exact x2.2 s hs
      · simp [yrsT]
  have hOv := Lib.hid (fun (A : Option Addr) (n c : Nat) (W : World) (h : TxR W W.heap.size (A, n, c) X) => rOver_any A n c X (t + 1) W hXs (by omega) (by omega) h)
  obtain ⟨F, hFF⟩ : ∃ F, str (figD t) = F := ⟨_, rfl⟩
  obtain ⟨G, hGG⟩ : ∃ G, str (figD f) = G := ⟨_, rfl⟩
  have hFs : F.size ≤ 1000000 := by rw [← hFF, str_size]; have := fig_len t; omega
  have hGs : G.size ≤ 1000000 := by rw [← hGG, str_size]; have := fig_len f; omega
  have hov2 : ¬ 9223372036854775807 < F.size + 2 := by omega
  have hov3 : ¬ 9223372036854775807 < G.size + 2 := by omega
  have ha : Hid (F ++ ⟨#[97, 10]⟩ = str (figD t ++ [97, 10])) := Lib.hid (by rw [← hFF, ← strs_app]; rfl)
  have hg : Hid (G ++ ⟨#[97, 10]⟩ = str (figD f ++ [97, 10])) := Lib.hid (by rw [← hGG, ← strs_app]; rfl)
  have hT : Hid (bracketD f t b older yours = [figD t ++ [97, 10]] ++ overD X (t + 1) ++ [figD f ++ [97, 10], minT, endD]) := Lib.hid (by unfold bracketD; rw [hX]; rfl)
  obtain ⟨T, hTT⟩ : ∃ T, bracketD f t b older yours = T := ⟨_, rfl⟩
  rw [hTT] at hT ⊢
  rw [hFF] at hF
  rw [hGG] at hG
  have hol : Hid ((overD X (t + 1)).length ≤ 100002) := Lib.hid (by have := over_len X (t + 1); have := hXs.1; omega)
  have hXh : Hid (X = (laidP b older ++ [eqT] ++ yours) ++ [yrsT]) := Lib.hid (by rw [← hX, laid_eq])
  have hXl : Hid (X.length ≤ 100000) := Lib.hid hXs.1
  have hw1 : IntKind.i64.wrap ((t : Int) + 1) = ((t + 1 : Nat) : Int) := by rw [IntWalk.i64_in _ (by omega)]; omega
  have hw2 : IntKind.i64.wrap (((f + 1 : Nat) : Int) - 1) = (f : Int) := by rw [IntWalk.i64_in _ (by omega)]; omega
  have hR1 := Lib.hid (fun (W : World) (hb : Below w.heap.size w W) => (hA1.up hb).2.2)
  have hR2 := Lib.hid (fun (W : World) (hb : Below w.heap.size w W) => (hA2.up hb).2.2)
  have q1 : Hid (older.length = n1 ∧ n1 ≤ 40000) := Lib.hid ⟨hl1, by omega⟩
  have q2 : Hid (yours.length = n2 ∧ n2 ≤ 40000) := Lib.hid ⟨hl2, by omega⟩
  have hnil := Lib.hid (TxO.none_ w w (Below.refl _ _))
  clear hFF hGG hTT hX hXs hA1 hA2 hl1 hl2 x1 x2
  go_enter Tryz.func29, Tryz.ntmps29
  go_upto_region 2 with fail
  obtain ⟨v0, hv0⟩ : ∃ v0 : Value, v0 = .slice none 0 0 := ⟨_, rfl⟩
  rw [← hv0] at hnil ⊢
  clear hv0
  cases b
  case' false =>
    go_upto_region 5 with fail
    obtain ⟨xs, hO0, hx0, hX0⟩ : ∃ xs : Txs, Hid (TxO w w v0 xs) ∧ Hid (xs.length ≤ 40001) ∧ Hid (xs ++ [eqT] ++ yours ++ [yrsT] = X) := ⟨[], hnil, Lib.hid (by simp), Lib.hid hXh.out.symm⟩
  case' true =>
    go_upto_region 5 with (first
      | (at_builtin; refine wpList_append_own_at _ rfl (.tmp 14) (.tmp 15) 22 rfl w.heap.size 9 i0 (.string ByteArray.empty) 1 16 Tryz.underlying22 hi hz0 hz1 hz2 rfl (by decide) _ _ _ rfl (hnil.out.own.alloc _) ⟨_, 0, none⟩ 1 1 [.string ⟨#[124, 124, 124, 124, 124, 124, 124, 32, 79, 76, 68, 69, 82, 10]⟩] rfl rfl (cell_one_new _ _ _) (by simp [Value.oneCell']) (by unfold maxLen; (try simp) <;> omega) (by (try simp) <;> omega) (by have := hnil.out.below.size; simp <;> omega) ?_; intro va wa hown hg1 hnil1 hloc1; have hOa := Lib.hid (hnil.out.push (s := oldT) hown hg1); clear hown hg1 hnil1 hloc1)
      | (at_builtin; refine wpList_append_reads _ rfl (.tmp 17) (.tmp 18) 22 rfl w.heap.size 9 i0 (.string ByteArray.empty) 16 Tryz.underlying22 hi hz0 hz1 hz2 rfl _ _ _ rfl hOa.out.own _ A1 _ c1 _ rfl (hR1.out _ hOa.out.below) (strs_one _) (by have := q1.out.2; unfold maxLen; (try simp) <;> omega) (by have := q1.out.2; (try simp) <;> omega) hOa.out.below.size ?_; intro vb wb hown hg1; have hOb := Lib.hid (hOa.out.put (ys := older) q1.out.1 hown hg1); clear hown hg1))
    obtain ⟨xs, hO0, hx0, hX0⟩ : ∃ xs : Txs, Hid (TxO w wb vb xs) ∧ Hid (xs.length ≤ 40001) ∧ Hid (xs ++ [eqT] ++ yours ++ [yrsT] = X) := ⟨[] ++ [oldT] ++ older, hOb, Lib.hid (by have := q1.out; simp; omega), Lib.hid hXh.out.symm⟩
    clear hOa hOb
  all_goals
    clear hXh hnil
    go_upto_region 8 with (first
      | (at_builtin; refine wpList_append_own_at _ rfl (.tmp 20) (.tmp 21) 22 rfl w.heap.size 9 i0 (.string ByteArray.empty) 1 16 Tryz.underlying22 hi hz0 hz1 hz2 rfl (by decide) _ _ _ rfl (hO0.out.own.alloc _) ⟨_, 0, none⟩ 1 1 [.string ⟨#[61, 61, 61, 61, 61, 61, 61, 10]⟩] rfl rfl (cell_one_new _ _ _) (by simp [Value.oneCell']) (by have := hx0.out; unfold maxLen; (try simp) <;> omega) (by have := hx0.out; (try simp) <;> omega) (by have := hO0.out.below.size; simp <;> omega) ?_; intro v1 w1 hown hg1 hnil1 hloc1; have hO1 := Lib.hid (hO0.out.push (s := eqT) hown hg1); clear hown hg1 hnil1 hloc1)
      | (at_builtin; refine wpList_append_reads _ rfl (.tmp 23) (.tmp 24) 22 rfl w.heap.size 9 i0 (.string ByteArray.empty) 16 Tryz.underlying22 hi hz0 hz1 hz2 rfl _ _ _ rfl hO1.out.own _ A2 _ c2 _ rfl (hR2.out _ hO1.out.below) (strs_one _) (by have := q2.out.2; have := hx0.out; unfold maxLen; (try simp) <;> omega) (by have := q2.out.2; have := hx0.out; (try simp) <;> omega) hO1.out.below.size ?_; intro v2 w2 hown hg1; have hO2 := Lib.hid (hO1.out.put (ys := yours) q2.out.1 hown hg1); clear hown hg1)
      | (at_builtin; refine wpList_append_own_at _ rfl (.tmp 26) (.tmp 27) 22 rfl w.heap.size 9 i0 (.string ByteArray.empty) 1 16 Tryz.underlying22 hi hz0 hz1 hz2 rfl (by decide) _ _ _ rfl (hO2.out.own.alloc _) ⟨_, 0, none⟩ 1 1 [.string ⟨#[62, 62, 62, 62, 62, 62, 62, 32, 89, 79, 85, 82, 83, 10]⟩] rfl rfl (cell_one_new _ _ _) (by simp [Value.oneCell']) (by have := q2.out; have := hx0.out; unfold maxLen; (try simp) <;> omega) (by have := q2.out; have := hx0.out; (try simp) <;> omega) (by have := hO2.out.below.size; simp <;> omega) ?_; intro v3 w3 hown hg1 hnil1 hloc1; have hO3 := Lib.hid (hO2.out.push (s := yrsT) hown hg1); clear hown hg1 hnil1 hloc1))
    rw [hX0.out] at hO3
    clear hO0 hO1 hO2 hX0 hx0
    obtain ⟨A5, n5, c5, hv5⟩ : ∃ A n c, v3 = .slice A n c := by
      obtain ⟨A, c, e, -⟩ := own_slice hO3.out.own
      exact ⟨A, _, c, e⟩
    subst hv5
    go_upto_region 9 with (go_at_call 53; refine (hF.out _).mono ?_; rintro e w4 ⟨rfl, q4⟩; have hB4 := Lib.hid q4; clear q4)
    have hO4 := Lib.hid (hO3.out.call hB4.out)
    have hL4 := Lib.hid ((TxO.lit w4 (figD t ++ [97, 10])).base hO4.out.below)
    have hO5 := Lib.hid (hO4.out.call (TxO.lit w4 (figD t ++ [97, 10])).below)
    rw [← ha.out] at hL4 hO5
    obtain ⟨W5, hW5⟩ : ∃ W5, W5 = w4.alloc (.cells #[.string (F ++ ⟨#[97, 10]⟩)] 9) := ⟨_, rfl⟩
    rw [← hW5] at hL4 hO5 ⊢
    clear hW5 hO3 hO4 hB4
    go_upto_region 10 with (first
      | (go_at_call 54; refine (hOv.out _ _ _ _ hO5.out.rd.1).mono ?_; rintro e w6 ⟨u6, rfl, hu6⟩; have hL6 := Lib.hid (hL4.out.call hu6.below); obtain ⟨A6, c6, hv6, l1, l2, hr6⟩ := own_slice hu6.own; subst hv6; have hr6h := Lib.hid hr6; clear hu6 l1 l2 hr6)
      | (at_builtin; refine wpList_append_reads _ rfl (.tmp 33) (.tmp 37) 22 rfl w.heap.size 9 i0 (.string ByteArray.empty) 16 Tryz.underlying22 hi hz0 hz1 hz2 rfl _ _ _ rfl hL6.out.own _ A6 _ c6 _ rfl hr6h.out (strs_one _) (by have := hol.out; unfold maxLen; (try simp) <;> omega) (by have := hol.out; (try simp) <;> omega) hL6.out.below.size ?_; intro v7 w7 hown hg1; have hL7 := Lib.hid (hL6.out.put (ys := overD X (t + 1)) rfl hown hg1); clear hown hg1))
    go_wp2_with (first
      | (go_at_call 53; refine (hG.out _).mono ?_; rintro e w8 ⟨rfl, q8⟩; have hL8 := Lib.hid (hL7.out.call q8); clear q8)
      | (at_builtin; refine wpList_append_own_at _ rfl (.tmp 39) (.tmp 44) 22 rfl w.heap.size 9 i0 (.string ByteArray.empty) 1 16 Tryz.underlying22 hi hz0 hz1 hz2 rfl (by decide) _ _ _ rfl (hL8.out.own.alloc _) ⟨_, 0, none⟩ 3 3 [.string (G ++ ⟨#[97, 10]⟩), .string ⟨#[60, 60, 60, 60, 60, 60, 60, 32, 77, 73, 78, 69, 10]⟩, .string ⟨#[46, 10]⟩] rfl rfl (cells_new _ _ _ _ _) (by simp [Value.oneCell']) (by have := hol.out; unfold maxLen; (try simp) <;> omega) (by have := hol.out; (try simp) <;> omega) (by have := hL8.out.below.size; simp <;> omega) ?_; intro v9 w9 hown hg1 hnil1 hloc1; rw [hg.out] at hown hg1; have hL9 := Lib.hid (hL8.out.pushes (ys := [figD f ++ [97, 10], minT, endD]) rfl hown hg1); clear hown hg1 hnil1 hloc1))
    go_ret
    have q := hL9.out
    rw [← hT.out] at q
    exact ⟨_, rfl, q⟩
end Go.Proofs.YtoopdgohdeddoaaGreatDoor
/- Proved here, without conditions: how chunks of matches come about, a run of stable places after the other. -/
namespace Go.Proofs.YtoopdgohdeddoaaGreatDoor
set_option linter.unusedVariables false

/-- With which places the matches pair place k, and one behind these. -/
def plAll (ms : List (List Int)) (k : Int) : List Int := ms.map fun l => pl l k
def plUp (ms : List (List Int)) (k : Int) : List Int := ms.map fun l => pl l k + 1
/-- The chunk from the places b and a up to the places e and f. -/
def ckOf (st : Bool) (b e : Int) (a f : List Int) : Ck := (st, (b, e), List.zip a f)
def putC (cs : List Ck) (c : Ck) : List Ck := if emptyB c then cs else cs ++ [c]

theorem plAll_len (ms : List (List Int)) (k : Int) : (plAll ms k).length = ms.length := by simp [plAll]
theorem plUp_len (ms : List (List Int)) (k : Int) : (plUp ms k).length = ms.length := by simp [plUp]
theorem plAll_at {ms : List (List Int)} {k v : Int} {s : Nat} (h : (plAll ms k)[s]? = some v) : ∃ l, ms[s]? = some l ∧ v = pl l k := by
  unfold plAll at h
  rw [List.getElem?_map] at h
  cases hc : ms[s]? with
  | none => rw [hc] at h; cases h
  | some l => rw [hc] at h; exact ⟨l, rfl, by simpa using h.symm⟩
theorem plUp_at {ms : List (List Int)} {k v : Int} {s : Nat} (h : (plUp ms k)[s]? = some v) : ∃ l, ms[s]? = some l ∧ v = pl l k + 1 := by
  unfold plUp at h
  rw [List.getElem?_map] at h
  cases hc : ms[s]? with
  | none => rw [hc] at h; cases h
  | some l => rw [hc] at h; exact ⟨l, rfl, by simpa using h.symm⟩
theorem zip_at {a f : List Int} {s : Nat} {sp : Sp} (h : (List.zip a f)[s]? = some sp) : a[s]? = some sp.1 ∧ f[s]? = some sp.2 := by
  rw [List.getElem?_zip_eq_some] at h
  exact h
theorem zip_ends {a f : List Int} (h : a.length = f.length) (st : Bool) (b e : Int) : ends (ckOf st b e a f) = f := by
  unfold ends ckOf
  exact List.map_snd_zip (by omega)
theorem allP_mem {ms : List (List Int)} {k : Int} (h : allP ms k = true) {l : List Int} (hl : l ∈ ms) : 0 ≤ pl l k := by
  unfold allP at h
  rw [List.all_eq_true] at h
  simpa using h l hl
theorem allP_of {ms : List (List Int)} {k : Int} (h : ∀ l ∈ ms, 0 ≤ pl l k) : allP ms k = true := by
  unfold allP
  rw [List.all_eq_true]
  intro l hl
  simpa using h l hl
theorem pl_get {l : List Int} {k : Int} (h : 0 ≤ pl l k) : l[k.toNat]? = some (pl l k) := by
  unfold pl at *
  cases hc : l[k.toNat]? with
  | none => rw [hc] at h; simp at h
  | some v => rfl
/-- Matches rise. -/
theorem rises {m : Nat} {l : List Int} {z i j : Int} (h : IsMatch m l z) (hi0 : 0 ≤ i) (hij : i < j) (hi : 0 ≤ pl l i) (hj : 0 ≤ pl l j) : pl l i < pl l j := by
  have gi := pl_get hi
  have gj := pl_get hj
  obtain ⟨hi1, hi2⟩ := List.getElem?_eq_some_iff.1 gi
  obtain ⟨hj1, hj2⟩ := List.getElem?_eq_some_iff.1 gj
  have := (List.pairwise_iff_getElem.1 h.2.2) i.toNat j.toNat hi1 hj1 (by omega)
  rw [hi2, hj2] at this
  exact this (by omega) (by omega)
theorem pl_lt {m : Nat} {l : List Int} {z i : Int} (h : IsMatch m l z) (hi : 0 ≤ pl l i) : pl l i < z :=
  (h.2.1 _ (List.mem_of_getElem? (pl_get hi)) (by omega)).2

/-- Chunks have come as far as place b of the base, and the places a of the sides. -/
structure CutIn (m : Nat) (sizes : List Int) (ms : List (List Int)) (cs : List Ck) (p : Option Bool) (b : Int) (a : List Int) : Prop where
  cont : ∀ rest, Cov m sizes rest p b a → Cov m sizes (cs ++ rest) none 0 (List.replicate sizes.length 0)
  places : ∀ c ∈ cs, Places ms c
  len : a.length = sizes.length
  b0 : 0 ≤ b
  bm : b ≤ m
  mode : (p = none ∧ b = 0 ∧ a = List.replicate sizes.length 0) ∨ (p = some true ∧ 0 < b ∧ allP ms (b - 1) = true ∧ a = plUp ms (b - 1) ∧ (b < m → ∃ l ∈ ms, pl l b ≠ pl l (b - 1) + 1))

section
variable {m : Nat} {sizes : List Int} {ms : List (List Int)} {cs : List Ck} {p : Option Bool} {b : Int} {a : List Int}
theorem CutIn.start (m : Nat) (sizes : List Int) (ms : List (List Int)) : CutIn m sizes ms [] none 0 (List.replicate sizes.length 0) :=
  ⟨fun rest h => h, fun c h => by simp at h, by simp, Int.le_refl _, by omega, .inl ⟨rfl, rfl, rfl⟩⟩
theorem empty_parts {st : Bool} {b e : Int} {a f : List Int} (h : emptyB (ckOf st b e a f) = true) : ¬ b < e ∧ ∀ (s : Nat) (u v : Int), a[s]? = some u → f[s]? = some v → ¬ u < v := by
  unfold emptyB ckOf at h
  simp only [Bool.not_eq_true', Bool.or_eq_false_iff, decide_eq_false_iff_not, List.any_eq_false, decide_eq_true_eq] at h
  refine ⟨h.1, fun s u v hu hv => ?_⟩
  exact h.2 (u, v) (List.mem_of_getElem? (List.getElem?_zip_eq_some.2 ⟨hu, hv⟩))
theorem full_of {st : Bool} {b e : Int} {a f : List Int} (h : b < e) : emptyB (ckOf st b e a f) = false := by
  unfold emptyB ckOf
  simp [h]
theorem head_of {st : Bool} {b e : Int} {a f : List Int} {p : Option Bool} (hl : a.length = f.length) (hbe : b ≤ e) (hp : p ≠ some st) (hf : emptyB (ckOf st b e a f) = false)
    (hs : ∀ (s : Nat) (u v : Int), a[s]? = some u → f[s]? = some v → u ≤ v ∧ (st = true → v - u = e - b)) : Head (ckOf st b e a f) p b a := by
  refine ⟨rfl, hbe, ?_, hp, hf, fun s sp v h1 h2 => ?_⟩
  · show (List.zip a f).length = a.length
    rw [List.length_zip]
    omega
  · obtain ⟨q1, q2⟩ := zip_at h1
    rw [h2] at q1
    injection q1 with q1
    obtain ⟨q3, q4⟩ := hs s v sp.2 h2 q2
    exact ⟨q1.symm, q3, fun h => by rw [← q1]; exact q4 h⟩
/-- Sides go on, never back. -/
theorem CutIn.ahead (hm : ∀ (k : Nat) (l : List Int) (z : Int), ms[k]? = some l → sizes[k]? = some z → IsMatch m l z) (hml : ms.length = sizes.length) (h : CutIn m sizes ms cs p b a) {e : Int} (hbe : b ≤ e) (he : allP ms e = true) {s : Nat} {u : Int} {l : List Int} (hu : a[s]? = some u) (hl : ms[s]? = some l) : u ≤ pl l e := by
  have hle := allP_mem he (List.mem_of_getElem? hl)
  rcases h.mode with ⟨-, -, rfl⟩ | ⟨-, h0, h1, rfl, -⟩
  · rw [List.getElem?_replicate] at hu
    split at hu
    · injection hu with hu; omega
    · cases hu
  · obtain ⟨l', hl', rfl⟩ := plUp_at hu
    rw [hl] at hl'
    injection hl' with hl'
    subst hl'
    have hs := (List.getElem?_eq_some_iff.1 hl).1
    have hz : sizes[s]? = some sizes[s] := List.getElem?_eq_getElem (by omega)
    have := rises (hm s l _ hl hz) (i := b - 1) (j := e) (by omega) (by omega) (allP_mem h1 (List.mem_of_getElem? hl)) hle
    omega

/-- What isn't stable, up to a run, and the run. -/
theorem CutIn.step (hm : ∀ (k : Nat) (l : List Int) (z : Int), ms[k]? = some l → sizes[k]? = some z → IsMatch m l z) (hml : ms.length = sizes.length) (h : CutIn m sizes ms cs p b a) {e t : Int} (hbe : b ≤ e) (het : e < t) (htm : t ≤ m)
    (hno : ∀ k, b ≤ k → k < e → allP ms k = false) (he : allP ms e = true) (hrun : ∀ k, e < k → k < t → ∀ l ∈ ms, pl l k = pl l (k - 1) + 1) (hend : t < m → ∃ l ∈ ms, pl l t ≠ pl l (t - 1) + 1) :
    CutIn m sizes ms (putC (putC cs (ckOf false b e a (plAll ms e))) (ckOf true e t (plAll ms e) (plUp ms (t - 1)))) (some true) t (plUp ms (t - 1)) := by
  have hpl : ∀ (d : Nat), e + d < t → ∀ l ∈ ms, pl l (e + d) = pl l e + d := by
    intro d
    induction d with
    | zero => intro _ l _; simp
    | succ d ih =>
      intro hd l hl
      have h1 := ih (by push_cast at hd; omega) l hl
      have h2 := hrun (e + (d + 1 : Nat)) (by push_cast; omega) hd l hl
      rw [show e + ((d + 1 : Nat) : Int) - 1 = e + d by push_cast; omega, h1] at h2
      rw [h2]; push_cast; omega
  have hpk : ∀ k, e ≤ k → k < t → ∀ l ∈ ms, pl l k = pl l e + (k - e) := by
    intro k h1 h2 l hl
    have := hpl (k - e).toNat (by omega) l hl
    rw [show e + ((k - e).toNat : Int) = k by omega] at this
    rw [this]; omega
  have hst : ∀ k, e ≤ k → k < t → allP ms k = true := fun k h1 h2 => allP_of fun l hl => by
    rw [hpk k h1 h2 l hl]
    have := allP_mem he hl
    omega
  have hlen := h.len
  have hl1 : a.length = (plAll ms e).length := by rw [plAll_len]; omega
  have hl2 : (plAll ms e).length = (plUp ms (t - 1)).length := by rw [plAll_len, plUp_len]
  have hc2 : emptyB (ckOf true e t (plAll ms e) (plUp ms (t - 1))) = false := full_of het
  have hb0 := h.b0
  have hP1 : Places ms (ckOf false b e a (plAll ms e)) := fun k h1 h2 => ⟨hno k h1 h2, fun h => by cases h⟩
  have hP2 : Places ms (ckOf true e t (plAll ms e) (plUp ms (t - 1))) := fun k h1 h2 => ⟨hst k h1 h2, fun _ s l sp hl hs => by
    obtain ⟨q1, q2⟩ := zip_at hs
    obtain ⟨l', hl', e1⟩ := plAll_at q1
    rw [hl] at hl'
    injection hl' with hl'
    subst hl'
    have := hpk k h1 h2 l (List.mem_of_getElem? hl)
    have e2 : (ckOf true e t (plAll ms e) (plUp ms (t - 1))).2.1.1 = e := rfl
    rw [e2, e1]
    omega⟩
  have hH2 : ∀ q, q ≠ some true → Head (ckOf true e t (plAll ms e) (plUp ms (t - 1))) q e (plAll ms e) := fun q hq =>
    head_of hl2 (by omega) hq hc2 fun s u v hu hv => by
      obtain ⟨l, hl, rfl⟩ := plAll_at hu
      obtain ⟨l', hl', rfl⟩ := plUp_at hv
      rw [hl] at hl'
      injection hl' with hl'
      subst hl'
      have := hpk (t - 1) (by omega) (by omega) l (List.mem_of_getElem? hl)
      exact ⟨by omega, fun _ => by omega⟩
  have hmode : (some true : Option Bool) = none ∧ t = 0 ∧ plUp ms (t - 1) = List.replicate sizes.length 0 ∨ (some true : Option Bool) = some true ∧ 0 < t ∧ allP ms (t - 1) = true ∧ plUp ms (t - 1) = plUp ms (t - 1) ∧ (t < m → ∃ l ∈ ms, pl l t ≠ pl l (t - 1) + 1) :=
    .inr ⟨rfl, by omega, hst _ (by omega) (by omega), rfl, hend⟩
  have hzip2 : ends (ckOf true e t (plAll ms e) (plUp ms (t - 1))) = plUp ms (t - 1) := zip_ends hl2 _ _ _
  by_cases hem : emptyB (ckOf false b e a (plAll ms e)) = true
  · obtain ⟨p1, p2⟩ := empty_parts hem
    obtain rfl : b = e := by omega
    have ha : a = plAll ms b := by
      refine List.ext_getElem? fun s => ?_
      rcases Nat.lt_or_ge s a.length with hs | hs
      · have hu : a[s]? = some a[s] := List.getElem?_eq_getElem hs
        have hl : ms[s]? = some ms[s] := List.getElem?_eq_getElem (by omega)
        have hv : (plAll ms b)[s]? = some (pl ms[s] b) := by unfold plAll; rw [List.getElem?_map, hl]; rfl
        have k1 := h.ahead hm hml (Int.le_refl b) he hu hl
        have k2 := p2 s _ _ hu hv
        rw [hu, hv]
        congr 1
        omega
      · rw [List.getElem?_eq_none hs, List.getElem?_eq_none (by omega)]
    have hpn : p ≠ some true := by
      intro hp
      rcases h.mode with ⟨q, -, -⟩ | ⟨-, q0, q1, q2, q3⟩
      · rw [q] at hp; cases hp
      · obtain ⟨l, hl, hne⟩ := q3 (by omega)
        obtain ⟨s, hs⟩ := List.mem_iff_getElem?.1 hl
        have e1 : a[s]? = some (pl l b) := by rw [ha]; unfold plAll; rw [List.getElem?_map, hs]; rfl
        have e2 : a[s]? = some (pl l (b - 1) + 1) := by rw [q2]; unfold plUp; rw [List.getElem?_map, hs]; rfl
        rw [e1] at e2
        injection e2 with e2
        exact hne e2
    unfold putC
    rw [if_pos hem, if_neg (by rw [hc2]; simp)]
    refine ⟨fun rest hr => ?_, fun c hc => ?_, by rw [plUp_len]; omega, by omega, by omega, hmode⟩
    · rw [List.append_assoc]
      refine h.cont _ ⟨?_, ?_⟩
      · rw [ha]; exact hH2 p hpn
      · rw [hzip2]; exact hr
    · rcases List.mem_append.1 hc with hc | hc
      · exact h.places c hc
      · rw [List.mem_singleton.1 hc]; exact hP2
  · have hemf : emptyB (ckOf false b e a (plAll ms e)) = false := by simpa using hem
    unfold putC
    rw [if_neg hem, if_neg (by rw [hc2]; simp)]
    refine ⟨fun rest hr => ?_, fun c hc => ?_, by rw [plUp_len]; omega, by omega, by omega, hmode⟩
    · rw [List.append_assoc, List.append_assoc]
      refine h.cont _ ⟨head_of hl1 hbe ?_ hemf fun s u v hu hv => ?_, ?_⟩
      · rcases h.mode with ⟨q, -, -⟩ | ⟨q, -⟩ <;> rw [q] <;> simp
      · obtain ⟨l, hl, rfl⟩ := plAll_at hv
        exact ⟨h.ahead hm hml hbe he hu hl, fun h => by cases h⟩
      · rw [zip_ends hl1]
        exact ⟨hH2 _ (by show some false ≠ some true; simp), by rw [hzip2]; exact hr⟩
    · rcases List.mem_append.1 hc with hc | hc
      · rcases List.mem_append.1 hc with hc | hc
        · exact h.places c hc
        · rw [List.mem_singleton.1 hc]; exact hP1
      · rw [List.mem_singleton.1 hc]; exact hP2

/-- What lies behind the last run. -/
theorem CutIn.finish (hm : ∀ (k : Nat) (l : List Int) (z : Int), ms[k]? = some l → sizes[k]? = some z → IsMatch m l z) (hml : ms.length = sizes.length) (hz : ∀ z ∈ sizes, 0 ≤ z) (h : CutIn m sizes ms cs p b a)
    (hno : ∀ k, b ≤ k → k < m → allP ms k = false) : IsCut m sizes ms (putC cs (ckOf false b m a sizes)) := by
  have hlen := h.len
  have hbm := h.bm
  have hle : ∀ (s : Nat) (u z : Int), a[s]? = some u → sizes[s]? = some z → u ≤ z := by
    intro s u z hu hzs
    rcases h.mode with ⟨-, -, rfl⟩ | ⟨-, h0, h1, rfl, -⟩
    · rw [List.getElem?_replicate] at hu
      split at hu
      · injection hu with hu
        have := hz z (List.mem_of_getElem? hzs)
        omega
      · cases hu
    · obtain ⟨l, hl, rfl⟩ := plUp_at hu
      have := pl_lt (hm s l z hl hzs) (allP_mem h1 (List.mem_of_getElem? hl))
      omega
  have hP : Places ms (ckOf false b m a sizes) := fun k h1 h2 => ⟨hno k h1 h2, fun h => by cases h⟩
  by_cases hem : emptyB (ckOf false b m a sizes) = true
  · obtain ⟨p1, p2⟩ := empty_parts hem
    have ha : a = sizes := by
      refine List.ext_getElem? fun s => ?_
      rcases Nat.lt_or_ge s a.length with hs | hs
      · have hu : a[s]? = some a[s] := List.getElem?_eq_getElem hs
        have hv : sizes[s]? = some sizes[s] := List.getElem?_eq_getElem (by omega)
        have k1 := hle s _ _ hu hv
        have k2 := p2 s _ _ hu hv
        rw [hu, hv]
        congr 1
        omega
      · rw [List.getElem?_eq_none hs, List.getElem?_eq_none (by omega)]
    unfold putC
    rw [if_pos hem]
    refine ⟨?_, h.places⟩
    have := h.cont [] ⟨ha, by omega⟩
    rwa [List.append_nil] at this
  · have hemf : emptyB (ckOf false b m a sizes) = false := by simpa using hem
    unfold putC
    rw [if_neg hem]
    refine ⟨h.cont _ ⟨head_of (by omega) hbm ?_ hemf fun s u v hu hv => ⟨hle s u v hu hv, fun h => by cases h⟩, ?_⟩, fun c hc => ?_⟩
    · rcases h.mode with ⟨q, -, -⟩ | ⟨q, -⟩ <;> rw [q] <;> simp
    · rw [zip_ends (by omega)]
      exact ⟨rfl, rfl⟩
    · rcases List.mem_append.1 hc with hc | hc
      · exact h.places c hc
      · rw [List.mem_singleton.1 hc]; exact hP
end
end Go.Proofs.YtoopdgohdeddoaaGreatDoor
