/- Proved here: texts joined: MkMark, Byte, SzRef, Grown. -/
import Derived.Test.YtcpopnhnihbofaaDoorBd01
import Derived.Test.YtcpopnhnihbofaaDoorBd02
import Derived.Test.YtcpopnhnihbofaaDoorBd04
import Derived.Test.YtcpopnhnihbofaaDoorBd08
import Derived.Test.YtcpopnhnihbofaaDoorBd16
import Derived.RangeFuncBox
import Derived.Deep.DeepCutAuto
import Derived.Outline
import Derived.BigQuiet
/- Proved here: the contract of the document's own answer of layer 12: Mark. -/
namespace Go.Proofs.YtcpopnhnihbofaaDoor
open Go.RowKit
set_option linter.unusedVariables false
set_option maxRecDepth 100000

set_option maxHeartbeats 1000000 in
theorem rMark_any (sg : UInt8) (long : Nat) (A : Option Addr) (n c B : Nat) (ss : Txs) (label : Tx) (w : World) (hlong : long ≤ 4096) (hn : n ≤ maxLen) (hs : ∀ s ∈ ss, s.length ≤ maxLen) (hlab : label.length ≤ 1000) (hA : Strs w B A n ss) :
    Calls Tryd.prog 14 #[.string (str [sg]), .int .i64 (long : Int), .slice A n c, .string (str label)] w fun e w' => e = .returned (.string (str (markT sg long ss label))) ∧ w' = w := by
  have hO := rOpen_any A n c B ss w hn hs hA
  obtain ⟨o, ho⟩ : ∃ o, openB ss = o := ⟨_, rfl⟩
  rw [ho] at hO
  have hOh := Lib.hid hO
  have hm : Hid (markT sg long ss label = List.replicate long sg ++ (if o = true then [33] else []) ++ label ++ [10]) := Lib.hid (by unfold markT; rw [ho])
  obtain ⟨C, hC⟩ : ∃ C, str [sg] = C := ⟨_, rfl⟩
  obtain ⟨L, hL⟩ : ∃ L, str label = L := ⟨_, rfl⟩
  have hCs : C.size = 1 := by rw [← hC]; rfl
  have hLs : L.size ≤ 1000 := by rw [← hL, str_size]; exact hlab
  rw [hC, hL]
  have hCh := Lib.hid hC
  have hLh := Lib.hid hL
  clear hA hO hs hn hC hL ho hlab
  go_enter Tryd.func14, Tryd.ntmps14
  go_wp2
  go_loop [9, 10] (fun s9 s10 => ∃ (i : Nat) (S : ByteArray), i ≤ long ∧ s10 = .int .i64 i ∧ s9 = .string S ∧ S.size = i ∧ Hid (S = str (List.replicate i sg))) (fun _ s10 => long - (intOf s10).toNat)
  case atStart => exact ⟨0, ByteArray.empty, Nat.zero_le _, rfl, rfl, rfl, Lib.hid rfl⟩
  case round =>
    obtain ⟨i, S, hi, rfl, rfl, hSz, hS⟩ := hrel
    by_cases hlt : i < long
    · have i2 : (i : Int) < (long : Int) := by omega
      have hsum : ¬ 9223372036854775807 < S.size + C.size := by omega
      have hnx : Hid (S ++ C = str (List.replicate (i + 1) sg)) := Lib.hid (by rw [hS.out, ← hCh.out, rep_app])
      have hsz : (S ++ C).size = i + 1 := by rw [hnx.out, str_size, List.length_replicate]
      go_wp2
      go_round
      case rel => exact ⟨i + 1, S ++ C, by omega, by go_num, rfl, hsz, hnx⟩
      case measure => simp [intOf]; omega
    · obtain rfl : i = long := by omega
      have h1 : ¬ 9223372036854775807 < S.size + 1 := by omega
      have h2 : ¬ 9223372036854775807 < S.size + 1 + L.size := by omega
      have h3 : ¬ 9223372036854775807 < S.size + L.size := by omega
      have h4 : ¬ 9223372036854775807 < S.size + L.size + 1 := by omega
      have h5 : ¬ 9223372036854775807 < S.size + 1 + L.size + 1 := by omega
      cases o
      · go_wp2_with (go_at_call 15; refine hOh.out.mono ?_; rintro e w1 ⟨rfl, rfl⟩)
        go_ret
        refine ⟨?_, rfl⟩
        show Ending.returned (.string (S ++ L ++ str [10])) = _
        rw [hm.out, hS.out, ← hLh.out, strs_app, strs_app]
        simp
      · go_wp2_with (go_at_call 15; refine hOh.out.mono ?_; rintro e w1 ⟨rfl, rfl⟩)
        go_ret
        refine ⟨?_, rfl⟩
        show Ending.returned (.string (S ++ str [33] ++ L ++ str [10])) = _
        rw [hm.out, hS.out, ← hLh.out, strs_app, strs_app, strs_app]
        simp
end Go.Proofs.YtcpopnhnihbofaaDoor
/- Proved here, without a word of the program: a byte held against a number. -/
namespace Go.Proofs.YtcpopnhnihbofaaDoor
set_option linter.unusedVariables false

theorem byte_is {c : UInt8} {n : Nat} (hn : n < 256) : ((c.toNat : Int) == (n : Int)) = (c == UInt8.ofNat n) := by
  rw [Bool.eq_iff_iff, beq_iff_eq, beq_iff_eq]
  constructor
  · intro h
    have h' : c.toNat = n := by exact_mod_cast h
    exact UInt8.toNat_inj.1 (by rw [h', UInt8.toNat_ofNat']; omega)
  · intro h
    subst h
    rw [UInt8.toNat_ofNat']
    congr 1
    omega
theorem byte_at (s : ByteArray) (k : Nat) (h : k < s.size) : s.data.toList[k]? = some s[k] := by
  rw [List.getElem?_eq_getElem (by simpa using h)]
  rfl
end Go.Proofs.YtcpopnhnihbofaaDoor
/- Proved here: contracts of the document's own answers of layer 11: sign, Run, Auto, Fits. -/
namespace Go.Proofs.YtcpopnhnihbofaaDoor
open Go.RowKit
set_option linter.unusedVariables false
set_option maxRecDepth 100000

theorem signB_is (c : UInt8) : signB c = (((c.toNat : Int) == 60) || ((c.toNat : Int) == 124) || ((c.toNat : Int) == 61) || ((c.toNat : Int) == 62)) := by
  have h1 : ((c.toNat : Int) == 60) = (c == 60) := byte_is (c := c) (n := 60) (by omega)
  have h2 : ((c.toNat : Int) == 124) = (c == 124) := byte_is (c := c) (n := 124) (by omega)
  have h3 : ((c.toNat : Int) == 61) = (c == 61) := byte_is (c := c) (n := 61) (by omega)
  have h4 : ((c.toNat : Int) == 62) = (c == 62) := byte_is (c := c) (n := 62) (by omega)
  rw [h1, h2, h3, h4]
  rfl
set_option maxHeartbeats 400000 in
theorem rSign_any (c : UInt8) (w : World) : Calls Tryd.prog 43 #[.int .u8 (c.toNat : Int)] w fun e w' => e = .returned (.bool (signB c)) ∧ w' = w := by
  rw [signB_is]
  obtain ⟨a1, h1⟩ : ∃ a, ((c.toNat : Int) == 60) = a := ⟨_, rfl⟩
  obtain ⟨a2, h2⟩ : ∃ a, ((c.toNat : Int) == 124) = a := ⟨_, rfl⟩
  obtain ⟨a3, h3⟩ : ∃ a, ((c.toNat : Int) == 61) = a := ⟨_, rfl⟩
  obtain ⟨a4, h4⟩ : ∃ a, ((c.toNat : Int) == 62) = a := ⟨_, rfl⟩
  rw [h1, h2, h3, h4]
  cases a1 <;> cases a2 <;> cases a3 <;> cases a4 <;>
    (go_enter Tryd.func43, Tryd.ntmps43
     go_wp2
     go_ret
     exact ⟨rfl, rfl⟩)

/-- How far a run goes, by its bytes. -/
theorem run_at {t : Tx} {c : UInt8} {k : Nat} (hc : signB c = true) (h1 : 1 ≤ k) (hk : k ≤ t.length) (ha : ∀ i, i < k → t[i]? = some c) (he : k = t.length ∨ t[k]? ≠ some c) : runN t = k := by
  cases t with
  | nil => simp at hk; omega
  | cons x s =>
    have hx : x = c := by have := ha 0 (by omega); simpa using this
    subst hx
    rw [run_cons, if_pos hc]
    have key : ∀ (s : Tx) (m : Nat), m ≤ s.length → (∀ i, i < m → s[i]? = some x) → (m = s.length ∨ s[m]? ≠ some x) → (s.takeWhile fun y => y == x).length = m := by
      intro s
      induction s with
      | nil => intro m h _ _; simp at h; subst h; rfl
      | cons y s ih =>
        intro m h ha he
        cases m with
        | zero =>
          have hy : y ≠ x := by
            rcases he with he | he
            · simp at he
            · simpa using he
          rw [List.takeWhile_cons, if_neg (by simpa using hy)]
          rfl
        | succ m =>
          have hy : y = x := by have := ha 0 (by omega); simpa using this
          rw [List.takeWhile_cons, if_pos (by simpa using hy), List.length_cons, ih m (by simpa using h) (fun i hi => by have := ha (i + 1) (by omega); simpa using this) (by
            rcases he with he | he
            · exact .inl (by simpa using he)
            · exact .inr (by simpa using he))]
    rw [key s (k - 1) (by simp at hk; omega) (fun i hi => by have := ha (i + 1) (by omega); simpa using this) (by
      rcases he with he | he
      · exact .inl (by simp at he; omega)
      · refine .inr ?_
        have e : k = (k - 1) + 1 := by omega
        rw [e, List.getElem?_cons_succ] at he
        exact he)]
    omega
theorem run_none {t : Tx} (h : ∀ c, t[0]? = some c → signB c = false) : runN t = 0 := by
  cases t with
  | nil => rfl
  | cons x s => rw [run_cons, if_neg (by rw [h x rfl]; simp)]

set_option maxHeartbeats 1000000 in
theorem rRun_bytes (s : ByteArray) (w : World) (hs : s.size ≤ maxLen) :
    Calls Tryd.prog 28 #[.string s] w fun e w' => e = .returned (.int .i64 (runN s.data.toList)) ∧ ∃ q, w' = w.drewN q := by
  unfold maxLen at hs
  have hsz : s.data.toList.length = s.size := (Lib.size_eq s).symm
  by_cases h0 : s.size = 0
  · have hz : (((s.size : Nat) : Int) == 0) = true := by rw [h0]; rfl
    have hr : Hid (runN s.data.toList = 0) := Lib.hid (run_none fun c hc => by have := (List.getElem?_eq_some_iff.1 hc).1; omega)
    clear hsz h0
    go_enter Tryd.func28, Tryd.ntmps28
    go_wp2
    go_ret
    exact ⟨ret_int (by rw [hr.out]; rfl), 0, rfl⟩
  · have hz : (((s.size : Nat) : Int) == 0) = false := by rw [beq_eq_false_iff_ne]; omega
    have h1 : 0 < s.size := by omega
    have hb0 := Lib.hid (byte_at s 0 h1)
    obtain ⟨b, hb⟩ : ∃ b, signB s[0] = b := ⟨_, rfl⟩
    have hS := rSign_any s[0] w
    rw [hb] at hS
    have hSh := Lib.hid hS
    have hbh := Lib.hid hb
    have hszh := Lib.hid hsz
    clear hS hb hsz h0
    cases b
    · have hr : Hid (runN s.data.toList = 0) := Lib.hid (run_none fun c hc => by rw [hb0.out] at hc; injection hc with hc; rw [← hc]; exact hbh.out)
      go_enter Tryd.func28, Tryd.ntmps28
      go_wp2_with (go_at_call 43; refine hSh.out.mono ?_; rintro e w1 ⟨rfl, rfl⟩)
      go_ret
      exact ⟨ret_int (by rw [hr.out]; rfl), 0, rfl⟩
    · go_enter Tryd.func28, Tryd.ntmps28
      go_wp2_with (go_at_call 43; refine hSh.out.mono ?_; rintro e w1 ⟨rfl, rfl⟩)
      go_loopw [3] (fun s3 wr => ∃ k : Nat, 1 ≤ k ∧ k ≤ s.size ∧ s3 = .int .i64 k ∧ Hid (∀ i, i < k → s.data.toList[i]? = some s[0]) ∧ ∃ q, wr = w1.drewN q) (fun s3 _ => s.size - (intOf s3).toNat)
      case atStart => exact ⟨1, Nat.le_refl _, h1, rfl, Lib.hid (fun i hi => by obtain rfl : i = 0 := (by omega); exact hb0.out), 0, rfl⟩
      case round =>
        obtain ⟨k, hk1, hk, rfl, hq, q, rfl⟩ := hrel
        by_cases hlt : k < s.size
        · have hli : (k : Int) < (s.size : Int) := by omega
          have hbk := Lib.hid (byte_at s k hlt)
          have i0 : (0 : Int) ≤ (k : Int) := by omega
          obtain ⟨r, hr⟩ : ∃ r, ((s[k].toNat : Int) == (s[0].toNat : Int)) = r := ⟨_, rfl⟩
          have hrr : Hid ((s[k] = s[0]) ↔ r = true) := Lib.hid (by
            rw [← hr, beq_iff_eq]
            exact ⟨fun h => by rw [h], fun h => UInt8.toNat_inj.1 (by exact_mod_cast h)⟩)
          cases r
          · have hfin := Lib.hid (run_at (t := s.data.toList) hbh.out hk1 (by rw [hszh.out]; exact hk) hq.out (.inr (by
              rw [hbk.out]
              intro h
              injection h with h
              have := hrr.out.1 h
              cases this)))
            go_wp2
            go_quiet (fail)
            obtain ⟨z1, rfl⟩ : ∃ z1, z1 = nq := ⟨_, rfl⟩
            go_wp2
            go_ret
            exact ⟨ret_int (by rw [hfin.out]), q + z1, World.drewN_drewN _ _ _⟩
          · have hnx := Lib.hid (show ∀ i, i < k + 1 → s.data.toList[i]? = some s[0] from fun i hi => by
              rcases Nat.lt_or_ge i k with h | h
              · exact hq.out i h
              · obtain rfl : i = k := by omega
                rw [hbk.out, hrr.out.2 rfl])
            go_wp2
            go_quiet (fail)
            obtain ⟨z1, rfl⟩ : ∃ z1, z1 = nq := ⟨_, rfl⟩
            go_wp2
            go_roundw
            case rel => exact ⟨k + 1, by omega, by omega, by go_num, hnx, q + z1, by simp⟩
            case measure => simp [intOf]; omega
        · obtain rfl : k = s.size := by omega
          have hfin := Lib.hid (run_at (t := s.data.toList) hbh.out hk1 (by rw [hszh.out]; exact Nat.le_refl _) hq.out (.inl hszh.out.symm))
          have n1 : ¬ (s.size : Int) < (s.size : Int) := by omega
          go_wp2
          go_quiet (fail)
          obtain ⟨z1, rfl⟩ : ∃ z1, z1 = nq := ⟨_, rfl⟩
          go_wp2
          go_ret
          exact ⟨ret_int (by rw [hfin.out]), q + z1, World.drewN_drewN _ _ _⟩
/-- Of a text. -/
theorem rRun_any (t : Tx) (w : World) (hs : t.length ≤ maxLen) : Calls Tryd.prog 28 #[.string (str t)] w fun e w' => e = .returned (.int .i64 (runN t)) ∧ ∃ q, w' = w.drewN q := by
  have := rRun_bytes (str t) w (by rw [str_size]; exact hs)
  rwa [str_data] at this
end Go.Proofs.YtcpopnhnihbofaaDoor
/- Proved here, without conditions on the program: a region that draws its order, whose operations read what was there, and whose callees make memory alone, is one walk, in the text's order. -/
namespace Go.Proofs.YtcpopnhnihbofaaDoor
open Go.RowKit
set_option linter.unusedVariables false

/-- A world that has grown. -/
structure Grew (W : World) where
  w : World
  below : Below W.heap.size W w
theorem quiet_grew {P : Program} {id : Nat} {Q : Exit → Act → World → Prop} {a : Act} {w : World} {l : List Oper} (hm : P.follows .mixedOrders = true) (hB : Region.lexB .any l.toArray = true)
    (h : wpQuiet P l.toArray (fun wx => ∃ x : Grew w, wx = x.w) (fun a' => ∀ w', (∃ x : Grew w, w' = x.w) → Q .normal a' w') l a) : (Code.region id l.toArray true).wp P Q a w :=
  wp_region_quiet (C := fun wx => ∃ x : Grew w, wx = x.w) hm hB ⟨⟨w.drew, (Below.refl _ w).drew⟩, rfl⟩ (by simpa using h)
theorem grew_here (W : World) : Nonempty (Grew W) := ⟨⟨W, Below.refl _ _⟩⟩
/-- A call that only makes memory stays within the class. -/
theorem grew_call {P : Program} {W : World} {f : FuncId} {args : Array Value} {v : Value} (h : ∀ w', Below W.heap.size W w' → Calls P f args w' fun e w'' => e = .returned v ∧ Below w'.heap.size w' w'') : ∀ x : Grew W, Calls P f args x.w fun e w'' => e = .returned v ∧ ∃ y : Grew W, w'' = y.w :=
  fun x => (h x.w x.below).mono fun e w'' hh => ⟨hh.1, ⟨w'', x.below.trans (hh.2.mono x.below.size)⟩, rfl⟩
end Go.Proofs.YtcpopnhnihbofaaDoor
