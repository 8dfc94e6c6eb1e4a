/-
  Package path: Text: a contract; what the statements want of the others.
-/
import Derived.Test.YthempdglmhmfeaaDoorPatPu
import Derived.Laws.StructEq
namespace Go.Proofs.YthempdglmhmfeaaDoor
open Go.RowKit
set_option linter.unusedVariables false

theorem parse_any (s : ByteArray) (w : World) (hs : s.size ≤ 1000000) : Calls Tryd.prog 16 #[.string s] w fun e w' => e = .returned (adV (parseA s.data.toList)) ∧ Below w.heap.size w w' := parse_big s w (by omega)

theorem tl_injU {a b : ByteArray} (h : a.toList = b.toList) : a = b := by
  rw [ByteArray.toList_eq, ByteArray.toList_eq] at h
  exact ba_ext h

theorem url_neq_no (s : Bool) (h p : ByteArray) (W : World) : Sem.run Tryd.prog (binOp BinOp.neq 28 (urlV s h p) (urlV s h p)) W = .ok (.bool false) W := by go_simp
theorem url_neq_yes (s t : Bool) (h p g q : ByteArray) (hne : ¬ (s = t ∧ h = g ∧ p = q)) (W : World) : Sem.run Tryd.prog (binOp BinOp.neq 28 (urlV s h p) (urlV t g q)) W = .ok (.bool true) W := by
  have H := Lib.hid hne
  clear hne
  go_simp
  intro h0 h1 h2
  exact absurd ⟨h0, tl_injU h1, tl_injU h2⟩ H.out

/-- What Text reads again. -/
def txtB (s : Bool) (h p : ByteArray) : ByteArray := (if s = true then (⟨#[104, 116, 116, 112, 115, 58, 47, 47]⟩ : ByteArray) else ⟨#[104, 116, 116, 112, 58, 47, 47]⟩) ++ h ++ p

theorem txtB_parse (s : Bool) (h p : ByteArray) : parseA (txtB s h p).data.toList = restA s (h.data.toList ++ p.data.toList) := by
  rw [← parse_scheme]
  congr 1
  unfold txtB
  cases s
  · rw [if_neg (by decide), if_neg (by decide), app_list, app_list, List.append_assoc]; rfl
  · rw [if_pos rfl, if_pos rfl, app_list, app_list, List.append_assoc]; rfl

theorem txtB_size (s : Bool) (h p : ByteArray) : (txtB s h p).size ≤ 8 + h.size + p.size := by
  unfold txtB
  rw [ByteArray.size_append, ByteArray.size_append]
  cases s
  · rw [if_neg (by decide), show (⟨#[104, 116, 116, 112, 58, 47, 47]⟩ : ByteArray).size = 7 from rfl]; omega
  · rw [if_pos rfl, show (⟨#[104, 116, 116, 112, 115, 58, 47, 47]⟩ : ByteArray).size = 8 from rfl]; omega

theorem text_case (s : Bool) (h p : ByteArray) : ∃ (e : Int) (t : Bool) (g q : ByteArray), adV (parseA (txtB s h p).data.toList) = .tuple #[urlV t g q, .int .i64 e] ∧
    ((e ≠ 0 ∧ txtV s h p = .tuple #[.string ByteArray.empty, .bool false]) ∨ (e = 0 ∧ ¬ (t = s ∧ g = h ∧ q = p) ∧ txtV s h p = .tuple #[.string ByteArray.empty, .bool false]) ∨
      (e = 0 ∧ (t = s ∧ g = h ∧ q = p) ∧ txtV s h p = .tuple #[.string (txtB s h p), .bool true])) := by
  rw [txtB_parse]
  obtain ⟨a, ha⟩ : ∃ a, a = restA s (h.data.toList ++ p.data.toList) := ⟨_, rfl⟩
  have hiff := text_iff s h.data.toList p.data.toList
  rw [← ha] at hiff ⊢
  refine ⟨a.e, a.sec, ⟨a.host.toArray⟩, ⟨a.path.toArray⟩, rfl, ?_⟩
  by_cases hy : hostB (h.data.toList.map lowC) = true ∧ h.data.toList.map lowC = h.data.toList ∧ rightB p.data.toList = true ∧ p.data.toList.any asksC = false
  · have e := hiff.1 hy
    refine .inr (.inr ⟨by rw [e], ⟨by rw [e], ba_ext (by rw [e]), ba_ext (by rw [e])⟩, ?_⟩)
    exact txtV_yes s h p hy
  · have hn := txtV_no s h p hy
    by_cases h0 : a.e = 0
    · refine .inr (.inl ⟨h0, ?_, hn⟩)
      rintro ⟨e1, e2, e3⟩
      refine hy (hiff.2 ?_)
      obtain ⟨e, t, g, q⟩ := a
      obtain rfl : e = 0 := h0
      obtain rfl : t = s := e1
      have e2' : g = h.data.toList := congrArg (fun b : ByteArray => b.data.toList) e2
      have e3' : q = p.data.toList := congrArg (fun b : ByteArray => b.data.toList) e3
      rw [e2', e3']
    · exact .inl ⟨h0, hn⟩

set_option maxRecDepth 100000 in
set_option maxHeartbeats 3200000 in
theorem text_any (s : Bool) (h p : ByteArray) (w : World) (hh : h.size ≤ 1000000) (hp : p.size ≤ 1000000) : Calls Tryd.prog 18 #[urlV s h p] w fun e w' => e = .returned (txtV s h p) ∧ Below w.heap.size w w' := by
  have z1 : (⟨#[104, 116, 116, 112, 58, 47, 47]⟩ : ByteArray).size + h.size ≤ 9223372036854775807 := by
    rw [show (⟨#[104, 116, 116, 112, 58, 47, 47]⟩ : ByteArray).size = 7 from rfl]; omega
  have z2 : ((⟨#[104, 116, 116, 112, 58, 47, 47]⟩ : ByteArray) ++ h).size + p.size ≤ 9223372036854775807 := by
    rw [ByteArray.size_append, show (⟨#[104, 116, 116, 112, 58, 47, 47]⟩ : ByteArray).size = 7 from rfl]; omega
  have z3 : (⟨#[104, 116, 116, 112, 115, 58, 47, 47]⟩ : ByteArray).size + h.size ≤ 9223372036854775807 := by
    rw [show (⟨#[104, 116, 116, 112, 115, 58, 47, 47]⟩ : ByteArray).size = 8 from rfl]; omega
  have z4 : ((⟨#[104, 116, 116, 112, 115, 58, 47, 47]⟩ : ByteArray) ++ h).size + p.size ≤ 9223372036854775807 := by
    rw [ByteArray.size_append, show (⟨#[104, 116, 116, 112, 115, 58, 47, 47]⟩ : ByteArray).size = 8 from rfl]; omega
  have HP := Lib.hid (parse_big (txtB s h p) · (by have := txtB_size s h p; omega))
  obtain ⟨e, t, g, q, hv, hc⟩ := text_case s h p
  rw [hv] at HP
  have HT : Hid (txtB s h p = (if s = true then (⟨#[104, 116, 116, 112, 115, 58, 47, 47]⟩ : ByteArray) else ⟨#[104, 116, 116, 112, 58, 47, 47]⟩) ++ h ++ p) := rfl
  have hu := UrlAt.new w s h p 28
  have hbW := (Below.refl w.heap.size w).alloc (Nat.le_refl _) (.cells #[.bool s, .string h, .string p] 28)
  obtain ⟨⟨c0, c1, c2⟩, f0, f1, f2⟩ := id hu
  have HC := Lib.hid hc
  clear hv hc
  obtain ⟨X, hX⟩ : ∃ X, X = txtB s h p := ⟨_, rfl⟩
  rw [← hX] at HP HC HT
  clear hX
  cases s
  · rw [if_neg (by decide)] at HT
    go_enter Tryd.func18, Tryd.ntmps18
    go_wp2_with fail
    rw [← HT.out]
    refine (HP.out _).mono ?_
    rintro _ w1 ⟨rfl, hb⟩
    have hb1 := chain hbW hb
    have hb2 := hb1.alloc hb1.size (.cells #[.bool t, .string g, .string q] 28)
    obtain ⟨⟨c0, c1, c2⟩, _⟩ := (hu.keep hb).keep ((Below.refl _ _).alloc (Nat.le_refl _) (.cells #[.bool t, .string g, .string q] 28))
    obtain ⟨⟨d0, d1, d2⟩, _⟩ := UrlAt.new w1 t g q 28
    clear hb hb1 hbW hu HP HT
    rcases HC.out with ⟨he, hv⟩ | ⟨he, hn, hv⟩ | ⟨he, ⟨e1, e2, e3⟩, hv⟩
    · have HV := Lib.hid hv
      have he2 : (e == 0) = false := beq_eq_false_iff_ne.2 he
      clear HC hv
      go_wp2
      go_ret2
      exact ⟨congrArg Ending.returned HV.out.symm, hb2⟩
    · have HV := Lib.hid hv
      have hne := url_neq_yes t false g q h p hn
      subst he
      clear HC hv hn
      go_wp2
      go_ret2
      exact ⟨congrArg Ending.returned HV.out.symm, hb2⟩
    · have HV := Lib.hid hv
      subst he e1 e2 e3
      have hne := url_neq_no false g q
      clear HC hv
      go_wp2
      go_ret2
      exact ⟨congrArg Ending.returned HV.out.symm, hb2⟩
  · rw [if_pos rfl] at HT
    go_enter Tryd.func18, Tryd.ntmps18
    go_wp2_with fail
    rw [← HT.out]
    refine (HP.out _).mono ?_
    rintro _ w1 ⟨rfl, hb⟩
    have hb1 := chain hbW hb
    have hb2 := hb1.alloc hb1.size (.cells #[.bool t, .string g, .string q] 28)
    obtain ⟨⟨c0, c1, c2⟩, _⟩ := (hu.keep hb).keep ((Below.refl _ _).alloc (Nat.le_refl _) (.cells #[.bool t, .string g, .string q] 28))
    obtain ⟨⟨d0, d1, d2⟩, _⟩ := UrlAt.new w1 t g q 28
    clear hb hb1 hbW hu HP HT
    rcases HC.out with ⟨he, hv⟩ | ⟨he, hn, hv⟩ | ⟨he, ⟨e1, e2, e3⟩, hv⟩
    · have HV := Lib.hid hv
      have he2 : (e == 0) = false := beq_eq_false_iff_ne.2 he
      clear HC hv
      go_wp2
      go_ret2
      exact ⟨congrArg Ending.returned HV.out.symm, hb2⟩
    · have HV := Lib.hid hv
      have hne := url_neq_yes t true g q h p hn
      subst he
      clear HC hv hn
      go_wp2
      go_ret2
      exact ⟨congrArg Ending.returned HV.out.symm, hb2⟩
    · have HV := Lib.hid hv
      subst he e1 e2 e3
      have hne := url_neq_no true g q
      clear HC hv
      go_wp2
      go_ret2
      exact ⟨congrArg Ending.returned HV.out.symm, hb2⟩
end Go.Proofs.YthempdglmhmfeaaDoor
