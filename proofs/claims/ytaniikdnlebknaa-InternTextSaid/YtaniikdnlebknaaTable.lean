/- Proved here: contracts of package intern: New, Len, Text, Id, add. -/
import Derived.Test.YtaniikdnlebknaaTab
import Derived.WalkLawsBesides
import Derived.OwnWalk
import Derived.IntWalk
import Derived.Outline
namespace Go.Proofs.Ytaniikdnlebknaa
open Go.RowKit Go.Maps Go.WideMaps
set_option linter.unusedVariables false

section
variable {F : Nat → Prop} {w : World} {T : Nat} {ts : List (List UInt8)}
theorem cells_of {w : World} {T : Nat} {C : Array Value} {t : TypeId} (h : w.heap[T]? = some (.cells C t (0, 0))) (k : Nat) : w.cell? ⟨T, k, none⟩ = C[k]? := by
  simp [World.cell?, h]
theorem unfrozen_of {w : World} {T : Nat} {C : Array Value} {t : TypeId} (h : w.heap[T]? = some (.cells C t (0, 0))) (k : Nat) : w.frozen? ⟨T, k, none⟩ = false := by
  simp [World.frozen?, h]
end

theorem own_slice {w : World} {base n : Nat} {e : TypeId} {v : Value} {xs : List Value} (h : w.ownsRow base e 1 v n xs) : ∃ A c, v = .slice A n c ∧ n ≤ c ∧ c ≤ maxLen ∧ Reads w w.heap.size A n xs := by
  rcases h.2 with ⟨rfl, rfl⟩ | ⟨g, cap, cur, rfl, _, _, hnc, hcm, _⟩
  · exact ⟨none, 0, rfl, Nat.le_refl _, Nat.zero_le _, Reads.of_own h⟩
  · exact ⟨_, cap, rfl, hnc, hcm, Reads.of_own h⟩

theorem Len_nil (w : World) : Calls Try.prog 13 #[.pointer none] w fun e w' => e = .returned (.int .i64 0) ∧ w = w' := by
  go_enter Try.func13, Try.ntmps13
  go_wp2
  go_ret
  exact ⟨rfl, rfl⟩

theorem Len_tab (F : Nat → Prop) (T : Nat) (ts : List (List UInt8)) (w : World) (h : Tab w T F ts) :
    Calls Try.prog 13 #[.pointer (some ⟨T, 0, none⟩)] w fun e w' => e = .returned (.int .i64 ts.length) ∧ w = w' := by
  obtain ⟨m, v, hb, _⟩ := h.rest
  have c2 : w.cell? ⟨T, 2, none⟩ = some (.int .i64 ts.length) := cells_of hb 2
  have hl := run_call_load (P := Try.prog) Try.func23 (by kernel_rfl) (by kernel_rfl) (by kernel_rfl) .i64 (by kernel_rfl) c2
  have hf := h.few
  clear hb
  go_enter Try.func13, Try.ntmps13
  go_wp2
  go_ret
  exact ⟨rfl, rfl⟩

theorem Id_nil (s : ByteArray) (w : World) : Calls Try.prog 12 #[.pointer none, .string s] w fun e w' => e = .returned (.int .i64 (-1)) ∧ w = w' := by
  go_enter Try.func12, Try.ntmps12
  go_wp2
  go_ret
  exact ⟨rfl, rfl⟩

/-- The text that has number i; the empty one, if none has. -/
def textAt (ts : List (List UInt8)) (i : Int) : List UInt8 := if i < 0 then [] else ts.getD i.toNat []

theorem Text_nil (i : Int) (w : World) : Calls Try.prog 14 #[.pointer none, .int .i64 i] w fun e w' => e = .returned (.string (str [])) ∧ w = w' := by
  by_cases h : i < 0
  · go_enter Try.func14, Try.ntmps14
    go_wp2
    go_ret
    exact ⟨rfl, rfl⟩
  · go_enter Try.func14, Try.ntmps14
    go_wp2_with (go_at_call 13; refine (Len_nil _).mono ?_; rintro e w' ⟨rfl, rfl⟩)
    go_ret
    exact ⟨rfl, rfl⟩

theorem New_any (w : World) :
    Calls Try.prog 10 #[] w fun e w' => e = .returned (.pointer (some ⟨w.heap.size, 0, none⟩)) ∧ Tab w' w.heap.size (· = w.heap.size) [] ∧ Below w.heap.size w w' ∧ w'.heap.size = w.heap.size + 1 := by
  go_enter Try.func10, Try.ntmps10
  go_wp2
  go_ret
  refine ⟨rfl, ⟨List.nodup_nil, by simp, by simp, rfl, fun k hk => ?_, .map none, .slice none 0 0, heap_alloc_new _ _, World.ownsRow_nil _ _ _ _, fun k e => ?_, .inl ⟨rfl, rfl⟩⟩, (Below.refl _ _).alloc (Nat.le_refl _) _, by simp⟩
  · subst hk; simp
  · simp [Value.ownBlock] at e

theorem textAt_in {ts : List (List UInt8)} {k : Nat} {s : List UInt8} (h : ts[k]? = some s) : textAt ts (k : Int) = s := by
  unfold textAt
  rw [if_neg (by omega)]
  simp [List.getD, h]
theorem textAt_out {ts : List (List UInt8)} {i : Int} (h : i < 0 ∨ (ts.length : Int) ≤ i) : textAt ts i = [] := by
  unfold textAt
  split
  · rfl
  · have : ts.length ≤ i.toNat := by omega
    simp [List.getD, List.getElem?_eq_none this]

theorem Text_tab (F : Nat → Prop) (T : Nat) (ts : List (List UInt8)) (i : Int) (w : World) (h : Tab w T F ts) :
    Calls Try.prog 14 #[.pointer (some ⟨T, 0, none⟩), .int .i64 i] w fun e w' => e = .returned (.string (str (textAt ts i))) ∧ w = w' := by
  have hf := h.few
  by_cases h0 : i < 0
  · have he := Lib.hid (textAt_out (ts := ts) (.inl h0))
    go_enter Try.func14, Try.ntmps14
    go_wp2
    go_ret
    exact ⟨ret_string (by rw [he.out]; rfl), rfl⟩
  · by_cases h1 : (ts.length : Int) ≤ i
    · have he := Lib.hid (textAt_out (ts := ts) (.inr h1))
      go_enter Try.func14, Try.ntmps14
      go_wp2_with (go_at_call 13; refine (Len_tab F T ts _ h).mono ?_; rintro e w' ⟨rfl, rfl⟩)
      go_ret
      exact ⟨ret_string (by rw [he.out]; rfl), rfl⟩
    · obtain ⟨k, rfl⟩ : ∃ k : Nat, i = k := ⟨i.toNat, by omega⟩
      have hk : k < ts.length := by omega
      have he := Lib.hid (textAt_in (List.getElem?_eq_getElem hk))
      obtain ⟨m, v, hb, hown, _⟩ := h.rest
      obtain ⟨s, hs⟩ : ∃ s, ts[k] = s := ⟨_, rfl⟩
      have hs' : ts[k]? = some s := by rw [← hs]; exact List.getElem?_eq_getElem hk
      rw [hs] at he
      clear hs
      obtain ⟨A, cap, rfl, _, _, hrd⟩ := own_slice hown
      obtain ⟨g, o, rfl, hlt, hcell⟩ := hrd.2 (by omega)
      · have c1 : w.cell? ⟨T, 1, none⟩ = some (.slice (some ⟨g, o, none⟩) ts.length cap) := cells_of hb 1
        have ck : w.cell? ⟨g, o + k, none⟩ = some (.string (str s)) := hcell k (.string (str s)) (by simp [hs'])
        clear hb hown hrd hcell hs'
        have hi : (k : Int) < (ts.length : Int) := by omega
        go_enter Try.func14, Try.ntmps14
        go_wp2_with (go_at_call 13; refine (Len_tab F T ts _ h).mono ?_; rintro e w' ⟨rfl, rfl⟩)
        go_ret
        exact ⟨ret_string (by rw [he.out]), rfl⟩

theorem Add_any (a : Addr) (x y : Int) (w : World) (hc : w.cell? a = some (.int .i64 x)) (hz : w.frozen? a = false) (hx : 0 ≤ x) (hy : 0 ≤ y) (hx1 : x ≤ 1000000000) (hy1 : y ≤ 1000000000) :
    Calls Try.prog 22 #[.pointer (some a), .int .i64 y] w fun e w' => e = .returned (.int .i64 (x + y)) ∧ w' = w.setCell a (.int .i64 (x + y)) := by
  obtain ⟨b, o, sp⟩ := a
  have hsp : sp = none := by simpa using World.cell?_spot hc
  subst hsp
  have ha := run_call_add (P := Try.prog) Try.func24 (by kernel_rfl) (by kernel_rfl) (by kernel_rfl) .i64 (by kernel_rfl) hc hz (y := y) (s := x + y) (by
    rw [show (x + y) = IntKind.i64.wrap (x + y) from (IntWalk.i64_in _ (by omega)).symm]; simp [go_sem])
  go_enter Try.func22, Try.ntmps22
  go_wp2
  go_ret
  exact ⟨rfl, rfl⟩
end Go.Proofs.Ytaniikdnlebknaa
