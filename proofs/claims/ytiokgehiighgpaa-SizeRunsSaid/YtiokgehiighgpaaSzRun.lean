/- Proved here: the contract of the landed package size's Run. -/
import Derived.Test.YtiokgehiighgpaaSzSign
namespace Go.Proofs.Ytiokgehiighgpaa
open Go.RowKit
set_option linter.unusedVariables false
set_option maxRecDepth 100000

/-- How far the run goes that has come to pos. -/
def RunTo (t : Tx) (pos : Nat) : Prop := 0 < pos → ∃ c, signB c = true ∧ ∀ i, i < pos → t[i]? = some c
theorem RunTo.other {t : Tx} {pos : Nat} {x : UInt8} (h : RunTo t pos) (hx : t[pos]? = some x) (hne : (0 < pos → ∀ c, t[0]? = some c → x ≠ c) ∧ (pos = 0 → signB x = false)) : runN t = pos := by
  have hl := (List.getElem?_eq_some_iff.1 hx).1
  rcases Nat.eq_zero_or_pos pos with h0 | h0
  · subst h0
    exact run_none fun c hc => by rw [hx] at hc; injection hc with hc; rw [← hc]; exact hne.2 rfl
  · obtain ⟨c, hc, ha⟩ := h h0
    refine run_at hc h0 (by omega) ha (.inr fun e => ?_)
    rw [hx] at e
    injection e with e
    exact hne.1 h0 c (ha 0 h0) e
theorem RunTo.plain {t : Tx} {pos : Nat} {x : UInt8} (h : RunTo t pos) (hx : t[pos]? = some x) (hs : signB x = false) : runN t = pos := by
  refine h.other hx ⟨fun h0 c hc e => ?_, fun _ => hs⟩
  obtain ⟨c', hc', ha⟩ := h h0
  rw [ha 0 h0] at hc
  injection hc with hc
  rw [e, ← hc, hc'] at hs
  cases hs
theorem RunTo.next {t : Tx} {pos : Nat} {x : UInt8} (h : RunTo t pos) (hx : t[pos]? = some x) (hs : signB x = true) (he : t[0]? = some x) : RunTo t (pos + 1) := fun _ => ⟨x, hs, fun i hi => by
  rcases Nat.lt_or_ge i pos with h1 | h1
  · obtain ⟨c, hc, ha⟩ := h (by omega)
    have := ha 0 (by omega)
    rw [he] at this
    injection this with this
    rw [ha i h1, this]
  · obtain rfl : i = pos := by omega
    exact hx⟩
theorem RunTo.all {t : Tx} (h : RunTo t t.length) : runN t = t.length := by
  rcases Nat.eq_zero_or_pos t.length with h0 | h0
  · have : t = [] := List.eq_nil_of_length_eq_zero h0
    subst this
    rfl
  · obtain ⟨c, hc, ha⟩ := h h0
    exact run_at hc h0 (Nat.le_refl _) ha (.inl rfl)
theorem sign_low {c : UInt8} (h : 128 ≤ c.toNat) : signB c = false := by rw [← rune_sign]; exact rune_high (by omega)

set_option maxHeartbeats 2000000 in
theorem run_bytes (s : ByteArray) (w : World) (hs : s.size ≤ 1000000) :
    Calls Try.prog 9 #[.string s] w fun e w' => e = .returned (.int .i64 (runN s.data.toList)) ∧ Below w.heap.size w w' := by
  have hsz : Hid (s.data.toList.length = s.size) := Lib.hid (Lib.size_eq s).symm
  have hSl : Hid (∀ (c : UInt8) (W : World), c.toNat < 128 → Calls Try.prog 16 #[.string { data := #[60, 124, 61, 62] }, .int .i32 (c.toNat : Int)] W fun e w' => e = .returned (.bool (signB c)) ∧ w' = W) := Lib.hid (fun c W h => isSign_low c W h)
  have hSh : Hid (∀ (r : Int) (W : World), 128 ≤ r → Calls Try.prog 16 #[.string { data := #[60, 124, 61, 62] }, .int .i32 r] W fun e w' => e = .returned (.bool false) ∧ Below W.heap.size W w') := Lib.hid (fun r W h => isSign_high r W h)
  go_enter Try.func9, Try.ntmps9
  go_wp2
  go_loopw [3, 4] (fun _ _ wr => ∃ pos : Nat, pos ≤ s.size ∧ wr = w.iter s pos ∧ Hid (RunTo s.data.toList pos)) (fun _ _ wr => s.size - wr.iterPos w.heap.size)
  case atStart => exact ⟨0, Nat.zero_le _, rfl, Lib.hid (fun h => absurd h (by omega))⟩
  case round =>
    obtain ⟨pos, hpos, rfl, hq⟩ := hrel
    by_cases hp : pos < s.size
    · have hb := Lib.hid (byte_at s pos hp)
      by_cases ha : (s[pos]'hp).toNat < 128
      · have hnx : ∀ ty, (Instr.next (.pointer (some ⟨w.heap.size, 0, none⟩)) true ty).run Try.prog (w.iter s pos) = _ := fun ty => run_next_ascii w s pos ty hp ha
        have h0 : 0 < s.size := by omega
        obtain ⟨sb, hsb⟩ : ∃ sb, signB s[pos] = sb := ⟨_, rfl⟩
        have hS := Lib.hid (fun W => hSl.out (s[pos]'hp) W ha)
        rw [hsb] at hS
        have hsbh := Lib.hid hsb
        have hb0 := Lib.hid (byte_at s 0 h0)
        clear hsb
        cases sb
        · have hfin := Lib.hid (hq.out.plain hb.out hsbh.out)
          go_wp2_with (go_at_call 16; refine (hS.out _).mono ?_; rintro e w1 ⟨rfl, hw1⟩; have hB1 : Hid (Below w.heap.size w w1) := Lib.hid (by rw [hw1]; exact below_iter _ _ _); clear hw1)
          go_ret
          exact ⟨ret_int (by rw [hfin.out]), hB1.out⟩
        · obtain ⟨e, he⟩ : ∃ e, ((((s[pos]'hp).toNat : Nat) : Int) == (((s[0]'h0).toNat : Nat) : Int)) = e := ⟨_, rfl⟩
          have hne : ((((s[pos]'hp).toNat : Nat) : Int) != (((s[0]'h0).toNat : Nat) : Int)) = !e := by rw [← he]; rfl
          have heh : Hid (s[pos]'hp = s[0]'h0 ↔ e = true) := Lib.hid (by
            rw [← he, beq_iff_eq]
            exact ⟨fun h => by rw [h], fun h => UInt8.toNat_inj.1 (by exact_mod_cast h)⟩)
          have i0 : (0 : Int) ≤ (((s[pos]'hp).toNat : Nat) : Int) := by omega
          have i1 : (((s[pos]'hp).toNat : Nat) : Int) ≤ 127 := by omega
          have hb255 : (s[0]'h0).toNat < 256 := UInt8.toNat_lt _
          have hw32 : wrap32 (((s[0]'h0).toNat : Nat) : Int) = (((s[0]'h0).toNat : Nat) : Int) := IntWalk.wrap32_in _ (by omega)
          clear hb255
          clear he
          cases e
          · have hfin : Hid (runN s.data.toList = pos) := Lib.hid (by
              refine hq.out.other hb.out ⟨fun _ c hc e => ?_, fun h => ?_⟩
              · rw [hb0.out] at hc
                injection hc with hc
                have := heh.out.1 (by rw [e, hc])
                cases this
              · subst h
                have := heh.out.1 rfl
                cases this)
            go_wp2_with (go_at_call 16; refine (hS.out _).mono ?_; rintro e w1 ⟨rfl, hw1⟩; have hB1 : Hid (Below w.heap.size w w1) := Lib.hid (by rw [hw1]; exact below_iter _ _ _); clear hw1)
            go_ret
            exact ⟨ret_int (by rw [hfin.out]), hB1.out⟩
          · have hnext := Lib.hid (hq.out.next hb.out hsbh.out (by rw [hb0.out, heh.out.2 rfl]))
            go_wp2_with (go_at_call 16; refine (hS.out _).mono ?_; rintro e w1 ⟨rfl, hw1⟩; have hw1h := Lib.hid hw1; clear hw1)
            go_roundw
            case rel => exact ⟨pos + 1, by omega, hw1h.out, hnext⟩
            case measure => rw [hw1h.out]; simp; omega
      · have hhi := decode_high s pos hp (by omega)
        have hnx : ∀ ty, (Instr.next (.pointer (some ⟨w.heap.size, 0, none⟩)) true ty).run Try.prog (w.iter s pos) = _ := fun ty => run_next_any w s pos ty hp
        obtain ⟨r, hr⟩ : ∃ r, (((Utf8.decode s pos).1 : Nat) : Int) = r := ⟨_, rfl⟩
        have hS := Lib.hid (fun W => hSh.out r W (by omega))
        have hfin := Lib.hid (hq.out.plain hb.out (sign_low (by omega)))
        obtain ⟨np, hnp⟩ : ∃ np, pos + (Utf8.decode s pos).2 = np := ⟨_, rfl⟩
        simp only [hr, hnp] at hnx
        clear hhi
        go_wp2_with (go_at_call 16; refine (hS.out _).mono ?_; rintro e w1 ⟨rfl, hw1⟩; have hB1 : Hid (Below w.heap.size w w1) := Lib.hid ((below_iter _ _ _).trans (hw1.mono (below_iter w s np).size)); clear hw1)
        go_ret
        exact ⟨ret_int (by rw [hfin.out]), hB1.out⟩
    · have hnx : ∀ ty, (Instr.next (.pointer (some ⟨w.heap.size, 0, none⟩)) true ty).run Try.prog (w.iter s pos) = _ := fun ty => run_next_end w s pos ty hp
      obtain rfl : pos = s.size := by omega
      have hfin : Hid (runN s.data.toList = s.size) := Lib.hid (by
        have h := hq.out
        rw [← hsz.out] at h ⊢
        exact h.all)
      go_wp2
      go_ret
      exact ⟨ret_int (by rw [hfin.out]), below_iter _ _ _⟩
theorem run_ok : SizeRunOk := fun t w ht => by
  have := run_bytes (str t) w (by rw [str_size]; exact ht)
  rwa [str_data] at this
end Go.Proofs.Ytiokgehiighgpaa
