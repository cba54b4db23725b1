/- Proved here: texts joined: SlcT, MkMark. -/
import Derived.Test.YtcjmmidnfjifaaaGreatDoorBm08
import Derived.Test.YtcjmmidnfjifaaaGreatDoorBm11
import Derived.Test.YtcjmmidnfjifaaaGreatDoorBm12
import Derived.RangeFuncBox
/- Proved here: a slice of texts cut by one bound alone, ahead or behind. -/
namespace Go.Proofs.YtcjmmidnfjifaaaGreatDoor
open Go.RowKit
set_option linter.unusedVariables false
set_option maxRecDepth 100000

/-- 's[:k]'. -/
theorem slice_to {w : World} {B n c : Nat} {A : Option Addr} {ss : List (List UInt8)} {k : Nat} (h : TxR w B (A, n, c) ss) (hk : k ≤ n) :
    ∃ A' m q, (∀ W : World, (Instr.slice 25 (.slice A n c) none (some (.int .i64 (k : Int))) none).run Tryz.prog W = .ok (.slice A' m q) W) ∧ TxR w B (A', m, q) (ss.take k) ∧ m = k := by
  obtain ⟨e1, e2, e3⟩ := h
  dsimp only at e1 e2 e3
  have hl := e3.len
  refine ⟨(if c = 0 then A else A.map (·.add 0)), k, c, fun W => ?_, ⟨by show k ≤ c; omega, e2, by rw [List.length_map, List.length_take]; show min k ss.length = k; omega, fun hn => ?_⟩, rfl⟩
  · rw [run_slice_h (P := Tryz.prog) W 25 A n c Tryz.underlying25 .i64 (k : Int) (by omega) (by omega)]
    go_simp
  · obtain ⟨b, o, rfl, hb, hcell⟩ := e3.2 (by have : 0 < k := hn; omega)
    have hc0 : c ≠ 0 := by have : 0 < k := hn; omega
    refine ⟨b, o, by show (if c = 0 then some ⟨b, o, none⟩ else (some (⟨b, o, none⟩ : Addr)).map (·.add 0)) = _; rw [if_neg hc0]; rfl, hb, fun j u hu => ?_⟩
    refine hcell j u ?_
    rw [← hu, List.map_take, List.getElem?_take]
    have hj := (List.getElem?_eq_some_iff.1 hu).1
    simp at hj
    rw [if_pos (by omega)]
/-- 's[k:]'. -/
theorem slice_from {w : World} {B n c : Nat} {A : Option Addr} {ss : List (List UInt8)} {k : Nat} (h : TxR w B (A, n, c) ss) (hk : k ≤ n) :
    ∃ A' m q, (∀ W : World, (Instr.slice 25 (.slice A n c) (some (.int .i64 (k : Int))) none none).run Tryz.prog W = .ok (.slice A' m q) W) ∧ TxR w B (A', m, q) (ss.drop k) ∧ m + k = n := by
  obtain ⟨e1, e2, e3⟩ := h
  dsimp only at e1 e2 e3
  have hl := e3.len
  refine ⟨(if c = k then A else A.map (·.add k)), n - k, c - k, fun W => ?_, ⟨by show n - k ≤ c - k; omega, by show c - k ≤ maxLen; omega, by rw [List.length_map, List.length_drop]; show ss.length - k = n - k; omega, fun hn => ?_⟩, by omega⟩
  · rw [run_slice_l (P := Tryz.prog) W 25 A n c Tryz.underlying25 .i64 (k : Int) (by omega) (by omega)]
    go_simp
  · have hn' : 0 < n - k := hn
    obtain ⟨b, o, rfl, hb, hcell⟩ := e3.2 (by omega)
    refine ⟨b, o + k, by show (if c = k then some ⟨b, o, none⟩ else (some (⟨b, o, none⟩ : Addr)).map (·.add k)) = _; rw [if_neg (by omega)]; simp only [Option.map_some]; unfold Addr.add; split <;> simp_all, hb, fun j u hu => ?_⟩
    rw [Nat.add_assoc]
    refine hcell (k + j) u ?_
    rw [← hu, List.map_drop, List.getElem?_drop]
/-- A slice lies where another one does. -/
def Near (A : Option Addr) (r : Slc) : Prop := 0 < r.2.1 → ∀ q o, r.1 = some ⟨q, o, none⟩ → ∃ o', A = some ⟨q, o', none⟩
/-- 's[i:k]'. -/
theorem slice_mid {w : World} {B n c : Nat} {A : Option Addr} {ss : List (List UInt8)} {i k : Nat} (h : TxR w B (A, n, c) ss) (hi : i ≤ k) (hk : k ≤ n) :
    ∃ A' m q, (∀ W : World, (Instr.slice 25 (.slice A n c) (some (.int .i64 (i : Int))) (some (.int .i64 (k : Int))) none).run Tryz.prog W = .ok (.slice A' m q) W) ∧ TxR w B (A', m, q) ((ss.drop i).take (k - i)) ∧ m + i = k ∧ Near A (A', m, q) := by
  obtain ⟨e1, e2, e3⟩ := h
  dsimp only at e1 e2 e3
  have hl := e3.len
  refine ⟨(if c = i then A else A.map (·.add i)), k - i, c - i, fun W => ?_, ⟨by show k - i ≤ c - i; omega, by show c - i ≤ maxLen; omega, by rw [List.length_map, List.length_take, List.length_drop]; show min (k - i) (ss.length - i) = k - i; omega, fun hn => ?_⟩, by omega, fun hn q o e => ?_⟩
  · rw [run_slice_lh (P := Tryz.prog) W 25 A n c Tryz.underlying25 .i64 .i64 (i : Int) (k : Int) (by omega) (by omega) (by omega)]
    go_simp
  · have hn' : 0 < k - i := hn
    obtain ⟨b, o, rfl, hb, hcell⟩ := e3.2 (by omega)
    refine ⟨b, o + i, by show (if c = i then some ⟨b, o, none⟩ else (some (⟨b, o, none⟩ : Addr)).map (·.add i)) = _; rw [if_neg (by omega)]; simp only [Option.map_some]; unfold Addr.add; split <;> simp_all, hb, fun j u hu => ?_⟩
    rw [Nat.add_assoc]
    refine hcell (i + j) u ?_
    have hj := (List.getElem?_eq_some_iff.1 hu).1
    simp at hj
    rw [← hu, List.map_take, List.getElem?_take, if_pos (by omega), List.map_drop, List.getElem?_drop]
  · have hn' : 0 < k - i := hn
    obtain ⟨b, o', rfl, hb, hcell⟩ := e3.2 (by omega)
    dsimp only at e
    rw [if_neg (by omega), Option.map_some] at e
    injection e with e
    refine ⟨o', ?_⟩
    have hb2 : ((⟨b, o', none⟩ : Addr).add i).block = b := by unfold Addr.add; split <;> rfl
    rw [e] at hb2
    dsimp only at hb2
    rw [hb2]
end Go.Proofs.YtcjmmidnfjifaaaGreatDoor
/- Proved here: contracts of the document's own answers of layer 12: Mark, Number, Ended. -/
namespace Go.Proofs.YtcjmmidnfjifaaaGreatDoor
open Go.RowKit
set_option linter.unusedVariables false
set_option maxRecDepth 100000

theorem strs_app (a b : Tx) : str a ++ str b = str (a ++ b) := by
  apply ByteArray.ext
  simp [str]
theorem rep_app (c : UInt8) (i : Nat) : str (List.replicate i c) ++ str [c] = str (List.replicate (i + 1) c) := by
  rw [strs_app, ← List.replicate_succ']

set_option maxHeartbeats 1000000 in
theorem rMark_any (sg : UInt8) (long : Nat) (A : Option Addr) (n c B : Nat) (ss : Txs) (label : Tx) (w : World) (hlong : long ≤ 4096) (hn : n ≤ maxLen) (hs : ∀ s ∈ ss, s.length ≤ maxLen) (hlab : label.length ≤ 1000) (hA : Strs w B A n ss) :
    Calls Tryz.prog 54 #[.string (str [sg]), .int .i64 (long : Int), .slice A n c, .string (str label)] w fun e w' => e = .returned (.string (str (markT sg long ss label))) ∧ w' = w := by
  have hO := rOpen_any A n c B ss w hn hs hA
  obtain ⟨o, ho⟩ : ∃ o, openB ss = o := ⟨_, rfl⟩
  rw [ho] at hO
  have hOh := Lib.hid hO
  have hm : Hid (markT sg long ss label = List.replicate long sg ++ (if o = true then [33] else []) ++ label ++ [10]) := Lib.hid (by unfold markT; rw [ho])
  obtain ⟨C, hC⟩ : ∃ C, str [sg] = C := ⟨_, rfl⟩
  obtain ⟨L, hL⟩ : ∃ L, str label = L := ⟨_, rfl⟩
  have hCs : C.size = 1 := by rw [← hC]; rfl
  have hLs : L.size ≤ 1000 := by rw [← hL, str_size]; exact hlab
  rw [hC, hL]
  have hCh := Lib.hid hC
  have hLh := Lib.hid hL
  clear hA hO hs hn hC hL ho hlab
  go_enter Tryz.func54, Tryz.ntmps54
  go_wp2
  go_loop [9, 10] (fun s9 s10 => ∃ (i : Nat) (S : ByteArray), i ≤ long ∧ s10 = .int .i64 i ∧ s9 = .string S ∧ S.size = i ∧ Hid (S = str (List.replicate i sg))) (fun _ s10 => long - (intOf s10).toNat)
  case atStart => exact ⟨0, ByteArray.empty, Nat.zero_le _, rfl, rfl, rfl, Lib.hid rfl⟩
  case round =>
    obtain ⟨i, S, hi, rfl, rfl, hSz, hS⟩ := hrel
    by_cases hlt : i < long
    · have i2 : (i : Int) < (long : Int) := by omega
      have hsum : ¬ 9223372036854775807 < S.size + C.size := by omega
      have hnx : Hid (S ++ C = str (List.replicate (i + 1) sg)) := Lib.hid (by rw [hS.out, ← hCh.out, rep_app])
      have hsz : (S ++ C).size = i + 1 := by rw [hnx.out, str_size, List.length_replicate]
      go_wp2
      go_round
      case rel => exact ⟨i + 1, S ++ C, by omega, by go_num, rfl, hsz, hnx⟩
      case measure => simp [intOf]; omega
    · obtain rfl : i = long := by omega
      have h1 : ¬ 9223372036854775807 < S.size + 1 := by omega
      have h2 : ¬ 9223372036854775807 < S.size + 1 + L.size := by omega
      have h3 : ¬ 9223372036854775807 < S.size + L.size := by omega
      have h4 : ¬ 9223372036854775807 < S.size + L.size + 1 := by omega
      have h5 : ¬ 9223372036854775807 < S.size + 1 + L.size + 1 := by omega
      cases o
      · go_wp2_with (go_at_call 78; refine hOh.out.mono ?_; rintro e w1 ⟨rfl, rfl⟩)
        go_ret
        refine ⟨?_, rfl⟩
        show Ending.returned (.string (S ++ L ++ str [10])) = _
        rw [hm.out, hS.out, ← hLh.out, strs_app, strs_app]
        simp
      · go_wp2_with (go_at_call 78; refine hOh.out.mono ?_; rintro e w1 ⟨rfl, rfl⟩)
        go_ret
        refine ⟨?_, rfl⟩
        show Ending.returned (.string (S ++ str [33] ++ L ++ str [10])) = _
        rw [hm.out, hS.out, ← hLh.out, strs_app, strs_app, strs_app]
        simp

theorem closed_setO {ss : Txs} {n : Nat} {t : Tx} (hl : ss.length = n + 1) (ht : ss[n]? = some t) (ho : openB ss = true) : closed ss = ss.set n (t ++ [10]) := by
  have hg : ss.getLast? = some t := by rw [List.getLast?_eq_getElem?, hl]; exact ht
  unfold closed openB at *
  rw [hg] at ho ⊢
  dsimp only at ho ⊢
  rw [if_neg (by simpa using ho)]
  apply List.ext_getElem?
  intro i
  rw [List.getElem?_set]
  rcases Nat.lt_trichotomy i n with h | h | h
  · rw [List.getElem?_append_left (by rw [List.length_dropLast]; omega), List.getElem?_dropLast, if_pos (by omega), if_neg (by omega)]
  · subst h
    rw [List.getElem?_append_right (by rw [List.length_dropLast]; omega), List.length_dropLast, if_pos rfl, if_pos (by omega)]
    rw [hl, Nat.add_sub_cancel, Nat.sub_self]
    rfl
  · rw [List.getElem?_eq_none (by rw [List.length_append, List.length_dropLast, List.length_singleton]; omega), if_neg (by omega), List.getElem?_eq_none (by omega)]

/-- Texts that a call has made, told. -/
def OwnT (w w' : World) (e : Ending) (xs : Txs) : Prop := ∃ v, e = .returned v ∧ TxO w w' v xs
set_option maxHeartbeats 2000000 in
theorem rEnded_any (A : Option Addr) (n c B : Nat) (ss : Txs) (w : World) (hn : n ≤ 100000) (hs : ∀ s ∈ ss, s.length ≤ 1000000) (hB : B ≤ w.heap.size) (hA : Strs w B A n ss) :
    Calls Tryz.prog 55 #[.slice A n c] w fun e w' => OwnT w w' e (closed ss) := by
  have hl := hA.len
  obtain ⟨i0, hi, hzz⟩ := Option.map_eq_some_iff.1 infoStr
  simp only [Prod.mk.injEq] at hzz
  obtain ⟨hz0, hz1, hz2⟩ := hzz
  have hw0 := own_empty w w.heap.size 9 (Nat.le_refl _)
  have hB0 := below_alloc (Below.refl w.heap.size w) (.cells #[] 9)
  have hA0 := Lib.hid (Strs.below (hA.more hB) hB0)
  have hm : Hid (0 + n ≤ maxLen ∧ (0 + n) * 16 ≤ 140737488355328) := Lib.hid ⟨by unfold maxLen; omega, by omega⟩
  have hO : Hid (∀ W, Below w.heap.size w W → Calls Tryz.prog 78 #[.slice A n c] W fun e w' => e = .returned (.bool (openB ss)) ∧ W = w') := Lib.hid (fun W hW => rOpen_any A n c w.heap.size ss W (by unfold maxLen; omega) (fun s h => by have := hs s h; unfold maxLen; omega) (Strs.below (hA.more hB) hW))
  obtain ⟨o, ho⟩ : ∃ o, openB ss = o := ⟨_, rfl⟩
  rw [ho] at hO
  have hoh := Lib.hid ho
  have hlh := Lib.hid hl
  have hsh := Lib.hid hs
  cases o
  · have hcl := Lib.hid (closed_same ho)
    clear hA hl ho hs
    go_enter Tryz.func55, Tryz.ntmps55
    go_wp2_with (first
      | (at_builtin; refine wpList_append_reads _ rfl _ _ 25 rfl w.heap.size 9 i0 (.string ByteArray.empty) 16 Tryz.underlying25 hi hz0 hz1 hz2 rfl _ 0 [] rfl hw0 w.heap.size A n c _ rfl hA0.out (strs_one _) hm.out.1 hm.out.2 hB0.size ?_; intro v1 w1 hown1 hg1; have hB1 : Below w.heap.size w w1 := hB0.grown hg1 hB0.size (fun j e => (hw0.lt j e).1); rw [Nat.zero_add, List.nil_append] at hown1)
      | (go_at_call 78; refine (hO.out _ hB1).mono ?_; rintro e w2 ⟨rfl, rfl⟩))
    go_ret
    exact ⟨_, rfl, by rw [hcl.out, hlh.out]; exact hown1, hB1⟩
  · obtain ⟨m, rfl⟩ : ∃ m, n = m + 1 := by
      cases n with
      | zero =>
        have : ss = [] := List.eq_nil_of_length_eq_zero hl
        subst this
        cases ho
      | succ m => exact ⟨m, rfl⟩
    obtain ⟨t, ht⟩ : ∃ t, ss[m]? = some t := ⟨ss[m]'(by omega), List.getElem?_eq_getElem _⟩
    have hcl := Lib.hid (closed_setO hl ht ho)
    have htl : t.length ≤ 1000000 := hs t (List.mem_of_getElem? ht)
    have hsum : ¬ 9223372036854775807 < (str t).size + 1 := by rw [str_size]; omega
    have hth := Lib.hid ht
    obtain ⟨N, hN⟩ : ∃ N, m + 1 = N := ⟨_, rfl⟩
    rw [hN] at hA0 hm hlh hO ⊢
    have hNi : (N : Int) - 1 = (m : Int) := by omega
    have hNw : IntKind.i64.wrap ((N : Int) - 1) = (m : Int) := by rw [hNi]; exact IntWalk.i64_in _ (by omega)
    have hmw : IntKind.i64.wrap (m : Int) = (m : Int) := IntWalk.i64_in _ (by omega)
    have i1 : (0 : Int) ≤ (m : Int) := by omega
    have i2 : (m : Int) < (N : Int) := by omega
    have hNh := Lib.hid hN
    clear hA hl ho hs ht hN
    go_enter Tryz.func55, Tryz.ntmps55
    go_wp2_with (first
      | (at_builtin; refine wpList_append_reads _ rfl _ _ 25 rfl w.heap.size 9 i0 (.string ByteArray.empty) 16 Tryz.underlying25 hi hz0 hz1 hz2 rfl _ 0 [] rfl hw0 w.heap.size A N c _ rfl hA0.out (strs_one _) hm.out.1 hm.out.2 hB0.size ?_; intro v1 w1 hown1 hg1; have hB1 : Below w.heap.size w w1 := hB0.grown hg1 hB0.size (fun j e => (hw0.lt j e).1); rw [Nat.zero_add, List.nil_append] at hown1; obtain ⟨g, cap, rfl⟩ := (show ∃ g cap, v1 = .slice (some ⟨g, 0, none⟩) N cap from by rw [← hNh.out] at hown1 ⊢; exact ownsRow_succ hown1); have hc1 := hown1.cellAt (j := m) (by omega); have hf1 := hown1.frozenAt m; have hgl := (hown1.lt g rfl); have hcs : w1.cell? ⟨g, m, none⟩ = some (.string (str t)) := (by rw [hc1, List.getElem?_map, hth.out]; rfl); clear hc1)
      | (go_at_call 78; refine (hO.out _ hB1).mono ?_; rintro e w2 ⟨rfl, hw2⟩; subst hw2))
    go_ret
    obtain ⟨s1, s2⟩ := hown1.stored m (.string (str t ++ ⟨#[10]⟩))
    refine ⟨_, rfl, ?_, hB1.grown s2 hB1.size (fun j e => by injection e with e; omega)⟩
    rw [hcl.out, List.length_set, hlh.out, List.map_set, ← str_feed]
    exact s1
set_option maxHeartbeats 4000000 in
theorem rNumber_any (n : Nat) (w : World) (h1 : 1 ≤ n) (h2 : n ≤ 16) :
    Calls Tryz.prog 56 #[.int .i64 (n : Int)] w fun e w' => e = .returned (.string (str (numT n))) ∧ Below w.heap.size w w' := by
  have hb : ∀ o : Obj, Below w.heap.size w (w.alloc o) := fun o => below_alloc (Below.refl _ _) o
  have hcv : ∀ z : Int, (convert 87 9 (.slice (some ⟨w.heap.size, 0, none⟩) 1 1)).run Tryz.prog (w.alloc (.cells #[.int .u8 z] 5)) = .ok (.string (strOfNums [z])) (w.alloc (.cells #[.int .u8 z] 5)) := fun z =>
    run_convert_bytes_arg (P := Tryz.prog) (w.alloc (.cells #[.int .u8 z] 5)) 87 5 Tryz.underlying87 Tryz.underlying5 w.heap.size 0 1 1 [z] rfl (fun i hi => by
      obtain rfl : i = 0 := by omega
      rw [Nat.zero_add, cells_of (one_a w _)]
      rfl) 9 Tryz.underlying9
  rcases (by omega : n = 1 ∨ n = 2 ∨ n = 3 ∨ n = 4 ∨ n = 5 ∨ n = 6 ∨ n = 7 ∨ n = 8 ∨ n = 9 ∨ n = 10 ∨ n = 11 ∨ n = 12 ∨ n = 13 ∨ n = 14 ∨ n = 15 ∨ n = 16) with rfl | rfl | rfl | rfl | rfl | rfl | rfl | rfl | rfl | rfl | rfl | rfl | rfl | rfl | rfl | rfl
  all_goals
    go_enter Tryz.func56, Tryz.ntmps56
    go_wp2
    go_ret
    exact ⟨rfl, hb _⟩
end Go.Proofs.YtcjmmidnfjifaaaGreatDoor
