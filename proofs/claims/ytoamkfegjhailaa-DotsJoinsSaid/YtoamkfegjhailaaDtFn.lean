/- Proved here: contracts of strings.HasPrefix and strings.CutPrefix at a point, and of the landed dots' closures. -/
import Derived.Test.YtoamkfegjhailaaDtRef
import Derived.Test.YtoamkfegjhailaaStrS
import Derived.RangeFuncBox
namespace Go.Proofs.Ytoamkfegjhailaa
open Go.RowKit
set_option linter.unusedVariables false
set_option maxRecDepth 100000

set_option maxHeartbeats 1000000 in
theorem prefS_any (t : Tx) (w : World) (ht : t.length ≤ 1000000) : Calls Try.prog 25 #[.string (str t), .string ⟨#[46]⟩] w fun e w' => e = .returned (.bool (pointB t)) ∧ w = w' := by
  have hp : (⟨#[46]⟩ : ByteArray).size = 1 := rfl
  cases t with
  | nil =>
    have hz : (str []).size = 0 := rfl
    obtain ⟨S, hS⟩ : ∃ S, str [] = S := ⟨_, rfl⟩
    rw [hS] at hz ⊢
    have hb : pointB [] = false := rfl
    rw [hb]
    clear hS
    go_enter Try.func25, Try.ntmps25
    go_wp2
    go_ret
    exact ⟨rfl, rfl⟩
  | cons c r =>
    have hz : (str (c :: r)).size = r.length + 1 := by rw [str_size]; rfl
    have hge : (1 : Int) ≤ ((str (c :: r)).size : Int) := by rw [hz]; omega
    have hsl : ∀ W, (Instr.slice 9 (.string (str (c :: r))) none (some (.int .i64 1)) none).run Try.prog W = .ok (.string (str [c])) W := fun W => slice_str_to (c :: r) 1 (by simp) W
    have hres : Hid (pointB (c :: r) = ((str [c]).toList == [46])) := Lib.hid (by
      rw [Lib.toList_data, str_data]
      unfold pointB
      rw [Bool.eq_iff_iff]
      simp)
    obtain ⟨S, hS⟩ : ∃ S, str (c :: r) = S := ⟨_, rfl⟩
    obtain ⟨U, hU⟩ : ∃ U, str [c] = U := ⟨_, rfl⟩
    rw [hS, hU] at hsl
    rw [hS] at hge ⊢
    rw [hU] at hres
    have hsz : ¬ (S.size : Int) < 1 := by omega
    clear hS hU hz ht
    go_enter Try.func25, Try.ntmps25
    go_wp2
    go_ret
    exact ⟨ret_bool (by rw [hres.out]), rfl⟩
theorem pref_any (t : Tx) (w : World) (ht : t.length ≤ 1000000) : Calls Try.prog 20 #[.string (str t), .string ⟨#[46]⟩] w fun e w' => e = .returned (.bool (pointB t)) ∧ w = w' := by
  have h := Lib.hid (prefS_any t w ht)
  go_enter Try.func20, Try.ntmps20
  go_wp2_with (go_at_call 25; refine h.out.mono ?_; rintro e w' ⟨rfl, rfl⟩)
  go_ret
  exact ⟨rfl, rfl⟩
set_option maxHeartbeats 1000000 in
theorem cutS_any (t : Tx) (w : World) (ht : t.length ≤ 1000000) : Calls Try.prog 26 #[.string (str t), .string ⟨#[46]⟩] w fun e w' => e = .returned (.tuple #[.string (str (bareT t)), .bool (pointB t)]) ∧ w = w' := by
  have h := Lib.hid (prefS_any t w ht)
  have hp : (⟨#[46]⟩ : ByteArray).size = 1 := rfl
  obtain ⟨p, hpt⟩ : ∃ p, pointB t = p := ⟨_, rfl⟩
  rw [hpt] at h ⊢
  cases p
  · have hb : bareT t = t := (plain_dot hpt).2
    rw [hb]
    clear hb hpt
    go_enter Try.func26, Try.ntmps26
    go_wp2_with (go_at_call 25; refine h.out.mono ?_; rintro e w' ⟨rfl, rfl⟩)
    go_ret2
    exact ⟨rfl, rfl⟩
  · have hne : 1 ≤ t.length := by
      cases t with
      | nil => cases hpt
      | cons => simp
    have hsl := slice_str_from t 1 hne
    have e : bareT t = t.drop 1 := by unfold bareT; rw [hpt, if_pos rfl, List.drop_one]
    rw [← e] at hsl
    obtain ⟨R, hR⟩ : ∃ R, str (bareT t) = R := ⟨_, rfl⟩
    rw [hR] at hsl ⊢
    clear e hR hpt
    have hsl2 : ∀ W, (Instr.slice 9 (.string (str t)) (some (.int .i64 1)) none none).run Try.prog W = .ok (.string R) W := hsl
    clear hsl
    go_enter Try.func26, Try.ntmps26
    go_wp2_with (go_at_call 25; refine h.out.mono ?_; rintro e w' ⟨rfl, rfl⟩)
    go_ret2
    exact ⟨rfl, rfl⟩
theorem cut_any46 (t : Tx) (w : World) (ht : t.length ≤ 1000000) : Calls Try.prog 22 #[.string (str t), .string ⟨#[46]⟩] w fun e w' => e = .returned (.tuple #[.string (str (bareT t)), .bool (pointB t)]) ∧ w = w' := by
  have h := Lib.hid (cutS_any t w ht)
  obtain ⟨R, hR⟩ : ∃ R, str (bareT t) = R := ⟨_, rfl⟩
  rw [hR] at h ⊢
  clear hR
  go_enter Try.func22, Try.ntmps22
  go_wp2_with (go_at_call 26; refine h.out.mono ?_; rintro e w' ⟨rfl, rfl⟩)
  go_ret2
  exact ⟨rfl, rfl⟩

/-- What a closure that makes a text otherwise leaves: the box Bd tells whether some began with a point. -/
def BoxB (Bd : Nat) (w w' : World) (b : Bool) : Prop := Boxed w' Bd 4 (.bool b) ∧ But (fun k => k = Bd) w w'
/-- A closure that makes each text otherwise, and notes whether it is one of those of p. -/
def ChF (g2 Bd : Nat) (f : Tx → Tx) (p : Tx → Bool) : Prop :=
  ∀ (b : Bool) (t : Tx) (w : World), t.length ≤ 1000000 → Boxed w Bd 4 (.bool b) → Calls Try.prog g2 #[.string (str t), .pointer (some ⟨Bd, 0, none⟩)] w fun e w' => e = .returned (.string (str (f t))) ∧ BoxB Bd w w' (b || p t)

theorem blockF_any (Bd : Nat) : ChF 19 Bd dotT pointB := by
  intro b t w ht hb
  have h := Lib.hid (pref_any t w ht)
  have c0 := hb.cell
  have c1 := hb.frozen
  have hset := Lib.hid (And.intro (hb.set (.bool true)) (But.setCell (F := fun k => k = Bd) w (p := ⟨Bd, 0, none⟩) rfl (.bool true)))
  have hsz : ¬ 9223372036854775807 < 1 + (str t).size := by rw [str_size]; omega
  obtain ⟨p, hp⟩ : ∃ p, pointB t = p := ⟨_, rfl⟩
  rw [hp] at h ⊢
  have hbh := Lib.hid hb
  cases p
  · rw [(plain_dot hp).1]
    clear hp hb
    go_enter Try.func19, Try.ntmps19
    go_wp2_with (go_at_call 20; refine h.out.mono ?_; rintro e w' ⟨rfl, rfl⟩)
    go_ret
    exact ⟨rfl, by rw [Bool.or_false]; exact hbh.out, But.refl _ _⟩
  · have hd : Hid ((⟨#[46]⟩ : ByteArray) ++ str t = str (dotT t)) := Lib.hid (by rw [str_dot]; unfold dotT; rw [if_pos hp])
    obtain ⟨D, hD⟩ : ∃ D, str (dotT t) = D := ⟨_, rfl⟩
    rw [hD] at hd ⊢
    clear hp hb hD
    go_enter Try.func19, Try.ntmps19
    go_wp2_with (go_at_call 20; refine h.out.mono ?_; rintro e w' ⟨rfl, rfl⟩)
    go_ret
    exact ⟨ret_string (by rw [← hd.out]), by rw [Bool.or_true]; exact hset.out.1, hset.out.2⟩
theorem stripF_any (Bd : Nat) : ChF 21 Bd bareT pointB := by
  intro b t w ht hb
  have h := Lib.hid (cut_any46 t w ht)
  have c0 := hb.cell
  have c1 := hb.frozen
  have hset := Lib.hid (fun u => And.intro (hb.set u) (But.setCell (F := fun k => k = Bd) w (p := ⟨Bd, 0, none⟩) rfl u))
  obtain ⟨R, hR⟩ : ∃ R, str (bareT t) = R := ⟨_, rfl⟩
  obtain ⟨p, hp⟩ : ∃ p, pointB t = p := ⟨_, rfl⟩
  rw [hR, hp] at h ⊢
  clear hb hR hp
  cases b <;> cases p
  all_goals
    go_enter Try.func21, Try.ntmps21
    go_wp2_with (go_at_call 22; refine h.out.mono ?_; rintro e w' ⟨rfl, rfl⟩)
    go_ret
    exact ⟨rfl, hset.out _⟩
end Go.Proofs.Ytoamkfegjhailaa
