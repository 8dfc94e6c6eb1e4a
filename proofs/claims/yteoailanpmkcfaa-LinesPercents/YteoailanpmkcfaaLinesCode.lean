/-
  The program's own Escape, Unescape, Percent, Unpercent (package lines): contracts.
-/
import Derived.Test.YteoailanpmkcfaaLinesReadP
namespace Go.Proofs.Yteoailanpmkcfaa
open Go.RowKit
set_option linter.unusedVariables false

theorem callEb (args : Array Value) (w : World) : Sem.run Try.prog (callFunc 54 args) w = .ok (.enter 54 args) w := by go_simp
theorem callEw (args : Array Value) (w : World) : Sem.run Try.prog (callFunc 56 args) w = .ok (.enter 56 args) w := by go_simp
theorem callPb (args : Array Value) (w : World) : Sem.run Try.prog (callFunc 57 args) w = .ok (.enter 57 args) w := by go_simp
theorem callPw (args : Array Value) (w : World) : Sem.run Try.prog (callFunc 59 args) w = .ok (.enter 59 args) w := by go_simp

theorem head_of (x : ByteArray) (h : 0 < x.size) : x.data.toList.headD 0 = x[0] := by
  rw [cons_of x h]
  rfl
theorem second_of (x : ByteArray) (h : 1 < x.size) : x.data.toList.tail.headD 0 = x[1] := by
  have e := drop_cons x 1 h
  rw [List.drop_one] at e
  rw [e]
  rfl

theorem wasE_is : Was wayE 56 := by
  intro x w hx
  have hx' : x.size = 1 := hx
  refine (wasE_any x w (by omega)).mono fun e w' ⟨h1, h2⟩ => ⟨?_, ?_⟩
  · rw [h1]
    refine ret_byte ?_
    show wasE x[0] = wasE (x.data.toList.headD 0)
    rw [head_of x (by omega)]
  · rw [h2]
    exact Below.refl _ _
theorem wasP_is : Was wayP 59 := by
  intro x w hx
  have hx' : x.size = 2 := hx
  refine (wasP_any x w (by omega)).mono fun e w' ⟨h1, h2⟩ => ⟨?_, h2⟩
  rw [h1]
  refine ret_byte ?_
  show wasP x[0] x[1] = wasP (x.data.toList.headD 0) (x.data.toList.tail.headD 0)
  rw [head_of x (by omega), second_of x (by omega)]

set_option maxRecDepth 100000 in
set_option maxHeartbeats 400000 in
theorem escape_any (s : ByteArray) (w : World) (hs : s.size ≤ 1000000000000) :
    Calls Try.prog 21 #[.string s] w fun e w' => e = .returned (.string (escLB s.data.toList)) ∧ Below w.heap.size w w' := by
  have HW := Lib.hid (fun W => write_any wayE 54 56 s W wayE_fair (by decide) hs callEb (fun c C w hC => becE_any c C w hC))
  go_enter Try.func21, Try.ntmps21
  go_wp2_with fail
  refine (escapes_any _).mono ?_
  rintro _ w1 ⟨rfl, hb1⟩
  generalize wayV wayE 54 56 = v at *
  go_wp2_with fail
  refine (HW.out _).mono ?_
  rintro _ w2 ⟨rfl, hb2⟩
  have hb3 := chain hb1 hb2
  go_wp2
  go_ret
  exact ⟨rfl, hb3⟩

set_option maxRecDepth 100000 in
set_option maxHeartbeats 400000 in
theorem percent_any (s : ByteArray) (w : World) (hs : s.size ≤ 1000000000000) :
    Calls Try.prog 27 #[.string s] w fun e w' => e = .returned (.string ⟨(pctL s.data.toList).toArray⟩) ∧ Below w.heap.size w w' := by
  have HW := Lib.hid (fun W => write_any wayP 57 59 s W wayP_fair (by decide) hs callPb (fun c C w hC => becP_any c C w hC))
  go_enter Try.func27, Try.ntmps27
  go_wp2_with fail
  refine (percents_any _).mono ?_
  rintro _ w1 ⟨rfl, hb1⟩
  generalize wayV wayP 57 59 = v at *
  go_wp2_with fail
  refine (HW.out _).mono ?_
  rintro _ w2 ⟨rfl, hb2⟩
  have hb3 := chain hb1 hb2
  go_wp2
  go_ret
  exact ⟨rfl, hb3⟩

theorem readV_two (o : Option (List UInt8)) : ∃ a b, readV o = .tuple #[.string a, .bool b] := by
  cases o with
  | none => exact ⟨_, _, rfl⟩
  | some l => exact ⟨_, _, rfl⟩

set_option maxRecDepth 100000 in
set_option maxHeartbeats 400000 in
theorem unescape_any (s : ByteArray) (w : World) (hs : s.size ≤ 1000000000000) :
    Calls Try.prog 22 #[.string s] w fun e w' => e = .returned (readV (unescL s.data.toList)) ∧ Below w.heap.size w w' := by
  have HW := Lib.hid (fun W => read_any wayE unescL 54 56 s W wayE_fair wayE_read (by decide) (by decide) hs callEb callEw (fun c C w hC => becE_any c C w hC) wasE_is)
  obtain ⟨a, b, hab⟩ := readV_two (unescL s.data.toList)
  rw [hab] at HW ⊢
  clear hab
  go_enter Try.func22, Try.ntmps22
  go_wp2_with fail
  refine (escapes_any _).mono ?_
  rintro _ w1 ⟨rfl, hb1⟩
  generalize wayV wayE 54 56 = v at *
  go_wp2_with fail
  refine (HW.out _).mono ?_
  rintro _ w2 ⟨rfl, hb2⟩
  have hb3 := chain hb1 hb2
  go_wp2
  go_ret2
  exact ⟨rfl, hb3⟩

set_option maxRecDepth 100000 in
set_option maxHeartbeats 400000 in
theorem unpercent_any (s : ByteArray) (w : World) (hs : s.size ≤ 1000000000000) :
    Calls Try.prog 25 #[.string s] w fun e w' => e = .returned (readV (unpctL s.data.toList)) ∧ Below w.heap.size w w' := by
  have HW := Lib.hid (fun W => read_any wayP unpctL 57 59 s W wayP_fair wayP_read (by decide) (by decide) hs callPb callPw (fun c C w hC => becP_any c C w hC) wasP_is)
  obtain ⟨a, b, hab⟩ := readV_two (unpctL s.data.toList)
  rw [hab] at HW ⊢
  clear hab
  go_enter Try.func25, Try.ntmps25
  go_wp2_with fail
  refine (percents_any _).mono ?_
  rintro _ w1 ⟨rfl, hb1⟩
  generalize wayV wayP 57 59 = v at *
  go_wp2_with fail
  refine (HW.out _).mono ?_
  rintro _ w2 ⟨rfl, hb2⟩
  have hb3 := chain hb1 hb2
  go_wp2
  go_ret2
  exact ⟨rfl, hb3⟩
end Go.Proofs.Yteoailanpmkcfaa
