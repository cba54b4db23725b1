/- Proved here: texts joined: SzSign, SzRun. -/
import Derived.Test.YtcpopnhnihbofaaDoorBd16
import Derived.Test.YtcpopnhnihbofaaDoorBd17
import Derived.Test.YtcpopnhnihbofaaDoorBd28
import Derived.Test.YtcpopnhnihbofaaDoorBd31
import Derived.Test.YtcpopnhnihbofaaDoorBd37
import Derived.RangeFuncBox
import Derived.Laws.RangeAny
import Derived.Laws.Runes
import Derived.LoopTactic
import Derived.WalkMore
import Derived.Deep.QuietTactic
import Derived.BigQuiet
/- Proved here: contracts of the library's unicode/utf8.ValidRune, and of strings.IndexRune and strings.ContainsRune where the string is that of the four marker signs, at any rune that isn't below 0. -/
namespace Go.Proofs.YtcpopnhnihbofaaDoor
open Go.RowKit
set_option linter.unusedVariables false
set_option maxRecDepth 100000

/-- The marker signs. -/
def sgB : ByteArray := { data := #[60, 124, 61, 62] }
theorem sgB_size : sgB.size = 4 := rfl
theorem sgB_list : sgB.data.toList = [60, 124, 61, 62] := rfl
def runeB (r : Int) : Bool := (r == 60) || (r == 124) || (r == 61) || (r == 62)
theorem rune_sign (c : UInt8) : runeB (c.toNat : Int) = signB c := (signB_is c).symm
theorem rune_high {r : Int} (h : 128 ≤ r) : runeB r = false := by
  have h1 : (r == 60) = false := by rw [beq_eq_false_iff_ne]; omega
  have h2 : (r == 124) = false := by rw [beq_eq_false_iff_ne]; omega
  have h3 : (r == 61) = false := by rw [beq_eq_false_iff_ne]; omega
  have h4 : (r == 62) = false := by rw [beq_eq_false_iff_ne]; omega
  unfold runeB
  rw [h1, h2, h3, h4]
  rfl
theorem below_iter (w : World) (s : ByteArray) (pos : Nat) : Below w.heap.size w (w.iter s pos) := (Below.refl _ _).alloc (Nat.le_refl _) _

set_option maxHeartbeats 400000 in
theorem validRune_any (r : Int) (w : World) (h0 : 128 ≤ r) : Calls Tryd.prog 59 #[.int .i32 r] w fun e w' => e = .returned (.bool (Utf8.valid r)) ∧ w' = w := by
  rw [validRune_eq]
  have hv : validRune r = decide ((r < 55296) ∨ (57343 < r ∧ r ≤ 1114111)) := by
    unfold validRune
    congr 1
    rw [eq_iff_iff]
    constructor <;> intro h <;> omega
  rw [hv]
  have hz : (0 : Int) ≤ r := by omega
  clear hv
  by_cases h1 : r < 55296
  · rw [decide_eq_true (.inl h1)]
    go_enter Tryd.func59, Tryd.ntmps59
    go_wp2
    go_ret
    exact ⟨rfl, rfl⟩
  · by_cases h2 : (57343 : Int) < r
    · by_cases h3 : r ≤ 1114111
      · rw [decide_eq_true (.inr ⟨h2, h3⟩)]
        go_enter Tryd.func59, Tryd.ntmps59
        go_wp2
        go_ret
        exact ⟨rfl, rfl⟩
      · rw [decide_eq_false (by omega)]
        go_enter Tryd.func59, Tryd.ntmps59
        go_wp2
        go_ret
        exact ⟨rfl, rfl⟩
    · rw [decide_eq_false (by omega)]
      go_enter Tryd.func59, Tryd.ntmps59
      go_wp2
      go_ret
      exact ⟨rfl, rfl⟩

/-- Where a byte stands among the marker signs. -/
theorem sg_index (c : UInt8) : decide (0 ≤ Lib.indexByte sgB.data.toList c) = signB c := by
  have h (d : UInt8) : (d == c) = decide (c = d) := by rw [Bool.eq_iff_iff, beq_iff_eq, decide_eq_true_eq]; exact eq_comm
  rw [sgB_list]
  by_cases h1 : c = 60
  · subst h1; rfl
  by_cases h2 : c = 124
  · subst h2; rfl
  by_cases h3 : c = 61
  · subst h3; rfl
  by_cases h4 : c = 62
  · subst h4; rfl
  have e : signB c = false := by
    rw [signB_is]
    have (n : Nat) (hn : n < 256) (hc : c ≠ UInt8.ofNat n) : ((c.toNat : Int) == (n : Int)) = false := by rw [byte_is hn]; exact beq_eq_false_iff_ne.2 hc
    have a1 := this 60 (by omega) h1
    have a2 := this 124 (by omega) h2
    have a3 := this 61 (by omega) h3
    have a4 := this 62 (by omega) h4
    exact congr (congrArg or (congr (congrArg or (congr (congrArg or a1) a2)) a3)) a4
  rw [e]
  simp [Lib.indexByte, h, h1, h2, h3, h4]
theorem sg_none : ∀ (c : UInt8), 128 ≤ c.toNat → ∀ k, 1 ≤ k → k ≤ 3 → Lib.indexByte (sgB.extract (k + 1) 4).data.toList c = -1 := by
  intro c hc k h1 h2
  have h60 : ∀ d : UInt8, d.toNat < 128 → (d == c) = false := fun d hd => by
    rw [beq_eq_false_iff_ne]
    intro e
    rw [e] at hd
    omega
  have e1 : (sgB.extract (1 + 1) 4).data.toList = [61, 62] := rfl
  have e2 : (sgB.extract (2 + 1) 4).data.toList = [62] := rfl
  have e3 : (sgB.extract (3 + 1) 4).data.toList = [] := rfl
  obtain rfl | rfl | rfl : k = 1 ∨ k = 2 ∨ k = 3 := by omega
  · rw [e1]; simp [Lib.indexByte, h60 61 (by decide), h60 62 (by decide)]
  · rw [e2]; simp [Lib.indexByte, h60 62 (by decide)]
  · rw [e3]; simp [Lib.indexByte]
theorem sg_low : ∀ (k : Nat) (h : k < sgB.size), (sgB[k]'h).toNat < 128 := by
  intro k h
  have h' : k < 4 := h
  obtain rfl | rfl | rfl | rfl : k = 0 ∨ k = 1 ∨ k = 2 ∨ k = 3 := by omega
  · show (60 : UInt8).toNat < 128; decide
  · show (124 : UInt8).toNat < 128; decide
  · show (61 : UInt8).toNat < 128; decide
  · show (62 : UInt8).toNat < 128; decide

set_option maxHeartbeats 2000000 in
theorem indexRune_low (c : UInt8) (w : World) (hc : c.toNat < 128) : Calls Tryd.prog 54 #[.string sgB, .int .i32 (c.toNat : Int)] w fun e w' => e = .returned (.int .i64 (Lib.indexByte sgB.data.toList c)) ∧ w' = w := by
  have h0 : (0 : Int) ≤ (c.toNat : Int) := by omega
  have h1 : (c.toNat : Int) < 128 := by omega
  have hw8 : IntKind.u8.wrap (c.toNat : Int) = (c.toNat : Int) := IntWalk.u8_in _ (by omega)
  have hback : ((c.toNat : Int)).toNat.toUInt8 = c := by simp
  have hI := Lib.hid (fun W => indexByte_any sgB (c.toNat : Int) W)
  rw [hback] at hI
  obtain ⟨k, hk⟩ : ∃ k, Lib.indexByte sgB.data.toList c = k := ⟨_, rfl⟩
  rw [hk] at hI ⊢
  obtain ⟨s, hs⟩ : ∃ s, s = sgB := ⟨_, rfl⟩
  rw [← hs] at hI ⊢
  clear hk hs hback
  go_enter Tryd.func54, Tryd.ntmps54
  go_wp2_with (go_at_call 53; refine (hI.out _).mono ?_; rintro e w1 ⟨rfl, hw1⟩; have hw1h := Lib.hid hw1; clear hw1)
  go_ret
  exact ⟨rfl, hw1h.out⟩

set_option maxHeartbeats 4000000 in
theorem indexRune_high (r : Int) (w : World) (hr : 128 ≤ r) : Calls Tryd.prog 54 #[.string sgB, .int .i32 r] w fun e w' => e = .returned (.int .i64 (-1)) ∧ Below w.heap.size w w' := by
  have hz : (0 : Int) ≤ r := by omega
  have hr1 : ¬ r < 128 := by omega
  have hV := Lib.hid (fun W => validRune_any r W hr)
  have hsz : sgB.size = 4 := rfl
  obtain ⟨s, hs⟩ : ∃ s, s = sgB := ⟨_, rfl⟩
  rw [← hs] at hsz ⊢
  have hlow : Hid (∀ (k : Nat) (h : k < s.size), (s[k]'h).toNat < 128) := Lib.hid (by rw [hs]; exact sg_low)
  have hnone : Hid (∀ (c : UInt8), 128 ≤ c.toNat → ∀ k, 1 ≤ k → k ≤ 3 → Lib.indexByte (s.extract (k + 1) 4).data.toList c = -1) := Lib.hid (by rw [hs]; exact sg_none)
  clear hs
  by_cases h2 : r = 65533
  · subst h2
    clear hV
    go_enter Tryd.func54, Tryd.ntmps54
    go_wp2
    go_loopw [5, 6] (fun _ _ wr => ∃ pos : Nat, pos ≤ 4 ∧ wr = w.iter s pos) (fun _ _ wr => 4 - wr.iterPos w.heap.size)
    case atStart => exact ⟨0, Nat.zero_le _, rfl⟩
    case round =>
      obtain ⟨pos, hpos, rfl⟩ := hrel
      by_cases hp : pos < s.size
      · have ha := hlow.out pos hp
        have hnx : ∀ ty, (Instr.next (.pointer (some ⟨w.heap.size, 0, none⟩)) true ty).run Tryd.prog (w.iter s pos) = _ := fun ty => run_next_ascii w s pos ty hp ha
        have hne : ((((s[pos]'hp).toNat : Nat) : Int) == 65533) = false := by rw [beq_eq_false_iff_ne]; omega
        go_wp2
        go_roundw
        case rel => exact ⟨pos + 1, by omega, rfl⟩
        case measure => simp; omega
      · have hnx : ∀ ty, (Instr.next (.pointer (some ⟨w.heap.size, 0, none⟩)) true ty).run Tryd.prog (w.iter s pos) = _ := fun ty => run_next_end w s pos ty hp
        go_wp2
        go_ret
        exact ⟨rfl, below_iter _ _ _⟩
  · have hne : (r == 65533) = false := by rw [beq_eq_false_iff_ne]; exact h2
    obtain ⟨v, hv⟩ : ∃ v, Utf8.valid r = v := ⟨_, rfl⟩
    rw [hv] at hV
    cases v
    · clear hv
      go_enter Tryd.func54, Tryd.ntmps54
      go_wp2_with (go_at_call 59; refine (hV.out _).mono ?_; rintro e w1 ⟨rfl, hw1⟩; have hw1h := Lib.hid hw1; clear hw1)
      go_ret
      exact ⟨rfl, by rw [hw1h.out]; exact Below.refl _ _⟩
    · obtain ⟨e1, e2, e3⟩ := encode_facts r hv hr
      obtain ⟨rs, hrs⟩ : ∃ rs, Utf8.encode r = rs := ⟨_, rfl⟩
      rw [hrs] at e1 e2 e3
      obtain ⟨n, hn⟩ : ∃ n, rs.size = n + 1 := ⟨rs.size - 1, by omega⟩
      have hn1 : n < rs.size := by omega
      have hlast : 128 ≤ ((rs[n]'hn1).toNat) := by
        have := e3 (by omega)
        simpa [hn] using this
      have hn2 : 1 ≤ n := by omega
      have hn3 : n ≤ 3 := by omega
      have hns : n < s.size := by omega
      have hls := hlow.out n hns
      have hneq : ((((s[n]'hns).toNat : Nat) : Int) != (((rs[n]'hn1).toNat : Nat) : Int)) = true := by
        rw [bne_iff_ne]; omega
      have hI := Lib.hid (fun W => indexByte_any (s.extract (n + 1) 4) ((rs[n]'hn1).toNat : Int) W)
      rw [show ((((rs[n]'hn1).toNat : Int)).toNat.toUInt8) = rs[n]'hn1 from by simp, hnone.out _ hlast n hn2 hn3] at hI
      clear hv e1 e2 e3 hlast hls hlow hnone
      have hwr : IntKind.i64.wrap ((n : Int) + 1) = (n : Int) + 1 := IntWalk.i64_in _ (by omega)
      have b0 : (0 : Int) ≤ (n : Int) := by omega
      have b1 : (n : Int) < (n : Int) + 1 := by omega
      have b4 : (0 : Int) ≤ (n : Int) + 1 := by omega
      have b5 : (n : Int) + 1 ≤ 4 := by omega
      have b6 : (n : Int) < 4 := by omega
      go_enter Tryd.func54, Tryd.ntmps54
      go_wp2_with (go_at_call 59; refine (hV.out _).mono ?_; rintro e w1 ⟨rfl, hw1⟩; have hw1h := Lib.hid hw1; clear hw1)
      go_step3
      go_wp2
      go_loopw [9] (fun s9 wr => s9 = .int .i64 n ∧ Hid (wr = w)) (fun _ _ => 0)
      case atStart => exact ⟨by go_num, hw1h⟩
      case round =>
        obtain ⟨rfl, hw⟩ := hrel
        have hB : Hid (∀ k, Below w.heap.size w (wr.drewN k)) := Lib.hid (fun k => by rw [hw.out]; exact below_drewN (Below.refl _ _) k)
        clear hw
        go_wp2
        go_step3
        go_wp2
        go_quiet (fail)
        go_wp2
        go_quiet ((go_at_call 53; exact (hI.out _).mono (fun _ _ h => ⟨h.1, _, h.2⟩)))
        go_wp2
        rw [Exit.noGoto_ret]
        go_wp2
        rw [Exit.noGoto_ret]
        go_ret
        exact ⟨rfl, hB.out _⟩

set_option maxHeartbeats 1000000 in
theorem isSign_low (c : UInt8) (w : World) (h : c.toNat < 128) : Calls Tryd.prog 47 #[.string sgB, .int .i32 (c.toNat : Int)] w fun e w' => e = .returned (.bool (signB c)) ∧ w' = w := by
  have hk := indexRune_low c w h
  have hb := sg_index c
  obtain ⟨k, hk'⟩ : ∃ k, Lib.indexByte sgB.data.toList c = k := ⟨_, rfl⟩
  rw [hk'] at hk hb
  obtain ⟨b, hb'⟩ : ∃ b, signB c = b := ⟨_, rfl⟩
  rw [hb'] at hb ⊢
  have hb2 : decide (k ≥ 0) = b := hb
  have hkh := Lib.hid hk
  obtain ⟨s, hs⟩ : ∃ s, s = sgB := ⟨_, rfl⟩
  rw [← hs] at hkh ⊢
  clear hs hb' hk hk' h hb
  go_enter Tryd.func47, Tryd.ntmps47
  go_wp2_with (go_at_call 54; refine hkh.out.mono ?_; rintro e w1 ⟨rfl, hw1⟩; have hw1h := Lib.hid hw1; clear hw1)
  go_ret
  exact ⟨rfl, hw1h.out⟩
set_option maxHeartbeats 1000000 in
theorem isSign_high (r : Int) (w : World) (h : 128 ≤ r) : Calls Tryd.prog 47 #[.string sgB, .int .i32 r] w fun e w' => e = .returned (.bool false) ∧ Below w.heap.size w w' := by
  have hkh := Lib.hid (indexRune_high r w h)
  obtain ⟨s, hs⟩ : ∃ s, s = sgB := ⟨_, rfl⟩
  rw [← hs] at hkh ⊢
  clear hs h
  go_enter Tryd.func47, Tryd.ntmps47
  go_wp2_with (go_at_call 54; refine hkh.out.mono ?_; rintro e w1 ⟨rfl, hw1⟩; have hw1h := Lib.hid hw1; clear hw1)
  go_ret
  exact ⟨rfl, hw1h.out⟩
end Go.Proofs.YtcpopnhnihbofaaDoor
/- Proved here: the contract of the landed package size's Run. -/
namespace Go.Proofs.YtcpopnhnihbofaaDoor
open Go.RowKit
set_option linter.unusedVariables false
set_option maxRecDepth 100000

/-- How far the run goes that has come to pos. -/
def RunTo (t : Tx) (pos : Nat) : Prop := 0 < pos → ∃ c, signB c = true ∧ ∀ i, i < pos → t[i]? = some c
theorem RunTo.other {t : Tx} {pos : Nat} {x : UInt8} (h : RunTo t pos) (hx : t[pos]? = some x) (hne : (0 < pos → ∀ c, t[0]? = some c → x ≠ c) ∧ (pos = 0 → signB x = false)) : runN t = pos := by
  have hl := (List.getElem?_eq_some_iff.1 hx).1
  rcases Nat.eq_zero_or_pos pos with h0 | h0
  · subst h0
    exact run_none fun c hc => by rw [hx] at hc; injection hc with hc; rw [← hc]; exact hne.2 rfl
  · obtain ⟨c, hc, ha⟩ := h h0
    refine run_at hc h0 (by omega) ha (.inr fun e => ?_)
    rw [hx] at e
    injection e with e
    exact hne.1 h0 c (ha 0 h0) e
theorem RunTo.plain {t : Tx} {pos : Nat} {x : UInt8} (h : RunTo t pos) (hx : t[pos]? = some x) (hs : signB x = false) : runN t = pos := by
  refine h.other hx ⟨fun h0 c hc e => ?_, fun _ => hs⟩
  obtain ⟨c', hc', ha⟩ := h h0
  rw [ha 0 h0] at hc
  injection hc with hc
  rw [e, ← hc, hc'] at hs
  cases hs
theorem RunTo.next {t : Tx} {pos : Nat} {x : UInt8} (h : RunTo t pos) (hx : t[pos]? = some x) (hs : signB x = true) (he : t[0]? = some x) : RunTo t (pos + 1) := fun _ => ⟨x, hs, fun i hi => by
  rcases Nat.lt_or_ge i pos with h1 | h1
  · obtain ⟨c, hc, ha⟩ := h (by omega)
    have := ha 0 (by omega)
    rw [he] at this
    injection this with this
    rw [ha i h1, this]
  · obtain rfl : i = pos := by omega
    exact hx⟩
theorem RunTo.all {t : Tx} (h : RunTo t t.length) : runN t = t.length := by
  rcases Nat.eq_zero_or_pos t.length with h0 | h0
  · have : t = [] := List.eq_nil_of_length_eq_zero h0
    subst this
    rfl
  · obtain ⟨c, hc, ha⟩ := h h0
    exact run_at hc h0 (Nat.le_refl _) ha (.inl rfl)
theorem sign_low {c : UInt8} (h : 128 ≤ c.toNat) : signB c = false := by rw [← rune_sign]; exact rune_high (by omega)

set_option maxHeartbeats 2000000 in
theorem run_bytes (s : ByteArray) (w : World) (hs : s.size ≤ 1000000) :
    Calls Tryd.prog 33 #[.string s] w fun e w' => e = .returned (.int .i64 (runN s.data.toList)) ∧ Below w.heap.size w w' := by
  have hsz : Hid (s.data.toList.length = s.size) := Lib.hid (Lib.size_eq s).symm
  have hSl : Hid (∀ (c : UInt8) (W : World), c.toNat < 128 → Calls Tryd.prog 47 #[.string { data := #[60, 124, 61, 62] }, .int .i32 (c.toNat : Int)] W fun e w' => e = .returned (.bool (signB c)) ∧ w' = W) := Lib.hid (fun c W h => isSign_low c W h)
  have hSh : Hid (∀ (r : Int) (W : World), 128 ≤ r → Calls Tryd.prog 47 #[.string { data := #[60, 124, 61, 62] }, .int .i32 r] W fun e w' => e = .returned (.bool false) ∧ Below W.heap.size W w') := Lib.hid (fun r W h => isSign_high r W h)
  go_enter Tryd.func33, Tryd.ntmps33
  go_wp2
  go_loopw [3, 4] (fun _ _ wr => ∃ pos : Nat, pos ≤ s.size ∧ wr = w.iter s pos ∧ Hid (RunTo s.data.toList pos)) (fun _ _ wr => s.size - wr.iterPos w.heap.size)
  case atStart => exact ⟨0, Nat.zero_le _, rfl, Lib.hid (fun h => absurd h (by omega))⟩
  case round =>
    obtain ⟨pos, hpos, rfl, hq⟩ := hrel
    by_cases hp : pos < s.size
    · have hb := Lib.hid (byte_at s pos hp)
      by_cases ha : (s[pos]'hp).toNat < 128
      · have hnx : ∀ ty, (Instr.next (.pointer (some ⟨w.heap.size, 0, none⟩)) true ty).run Tryd.prog (w.iter s pos) = _ := fun ty => run_next_ascii w s pos ty hp ha
        have h0 : 0 < s.size := by omega
        obtain ⟨sb, hsb⟩ : ∃ sb, signB s[pos] = sb := ⟨_, rfl⟩
        have hS := Lib.hid (fun W => hSl.out (s[pos]'hp) W ha)
        rw [hsb] at hS
        have hsbh := Lib.hid hsb
        have hb0 := Lib.hid (byte_at s 0 h0)
        clear hsb
        cases sb
        · have hfin := Lib.hid (hq.out.plain hb.out hsbh.out)
          go_wp2_with (go_at_call 47; refine (hS.out _).mono ?_; rintro e w1 ⟨rfl, hw1⟩; have hB1 : Hid (Below w.heap.size w w1) := Lib.hid (by rw [hw1]; exact below_iter _ _ _); clear hw1)
          go_ret
          exact ⟨ret_int (by rw [hfin.out]), hB1.out⟩
        · obtain ⟨e, he⟩ : ∃ e, ((((s[pos]'hp).toNat : Nat) : Int) == (((s[0]'h0).toNat : Nat) : Int)) = e := ⟨_, rfl⟩
          have hne : ((((s[pos]'hp).toNat : Nat) : Int) != (((s[0]'h0).toNat : Nat) : Int)) = !e := by rw [← he]; rfl
          have heh : Hid (s[pos]'hp = s[0]'h0 ↔ e = true) := Lib.hid (by
            rw [← he, beq_iff_eq]
            exact ⟨fun h => by rw [h], fun h => UInt8.toNat_inj.1 (by exact_mod_cast h)⟩)
          have i0 : (0 : Int) ≤ (((s[pos]'hp).toNat : Nat) : Int) := by omega
          have i1 : (((s[pos]'hp).toNat : Nat) : Int) ≤ 127 := by omega
          have hb255 : (s[0]'h0).toNat < 256 := UInt8.toNat_lt _
          have hw32 : wrap32 (((s[0]'h0).toNat : Nat) : Int) = (((s[0]'h0).toNat : Nat) : Int) := IntWalk.wrap32_in _ (by omega)
          clear hb255
          clear he
          cases e
          · have hfin : Hid (runN s.data.toList = pos) := Lib.hid (by
              refine hq.out.other hb.out ⟨fun _ c hc e => ?_, fun h => ?_⟩
              · rw [hb0.out] at hc
                injection hc with hc
                have := heh.out.1 (by rw [e, hc])
                cases this
              · subst h
                have := heh.out.1 rfl
                cases this)
            go_wp2_with (go_at_call 47; refine (hS.out _).mono ?_; rintro e w1 ⟨rfl, hw1⟩; have hB1 : Hid (Below w.heap.size w w1) := Lib.hid (by rw [hw1]; exact below_iter _ _ _); clear hw1)
            go_ret
            exact ⟨ret_int (by rw [hfin.out]), hB1.out⟩
          · have hnext := Lib.hid (hq.out.next hb.out hsbh.out (by rw [hb0.out, heh.out.2 rfl]))
            go_wp2_with (go_at_call 47; refine (hS.out _).mono ?_; rintro e w1 ⟨rfl, hw1⟩; have hw1h := Lib.hid hw1; clear hw1)
            go_roundw
            case rel => exact ⟨pos + 1, by omega, hw1h.out, hnext⟩
            case measure => rw [hw1h.out]; simp; omega
      · have hhi := decode_high s pos hp (by omega)
        have hnx : ∀ ty, (Instr.next (.pointer (some ⟨w.heap.size, 0, none⟩)) true ty).run Tryd.prog (w.iter s pos) = _ := fun ty => run_next_any w s pos ty hp
        obtain ⟨r, hr⟩ : ∃ r, (((Utf8.decode s pos).1 : Nat) : Int) = r := ⟨_, rfl⟩
        have hS := Lib.hid (fun W => hSh.out r W (by omega))
        have hfin := Lib.hid (hq.out.plain hb.out (sign_low (by omega)))
        obtain ⟨np, hnp⟩ : ∃ np, pos + (Utf8.decode s pos).2 = np := ⟨_, rfl⟩
        simp only [hr, hnp] at hnx
        clear hhi
        go_wp2_with (go_at_call 47; refine (hS.out _).mono ?_; rintro e w1 ⟨rfl, hw1⟩; have hB1 : Hid (Below w.heap.size w w1) := Lib.hid ((below_iter _ _ _).trans (hw1.mono (below_iter w s np).size)); clear hw1)
        go_ret
        exact ⟨ret_int (by rw [hfin.out]), hB1.out⟩
    · have hnx : ∀ ty, (Instr.next (.pointer (some ⟨w.heap.size, 0, none⟩)) true ty).run Tryd.prog (w.iter s pos) = _ := fun ty => run_next_end w s pos ty hp
      obtain rfl : pos = s.size := by omega
      have hfin : Hid (runN s.data.toList = s.size) := Lib.hid (by
        have h := hq.out
        rw [← hsz.out] at h ⊢
        exact h.all)
      go_wp2
      go_ret
      exact ⟨ret_int (by rw [hfin.out]), below_iter _ _ _⟩
theorem run_ok : SizeRunOk := fun t w ht => by
  have := run_bytes (str t) w (by rw [str_size]; exact ht)
  rwa [str_data] at this
end Go.Proofs.YtcpopnhnihbofaaDoor
