/-
  For every text s and byte sep, cracknellaw01.AsciiCuts(s, sep) returns true and leaves them as they were. Conditions: none beyond the form's own (a string that is read takes at most 2^47 - 4096 bytes).
-/
import Derived.Test.YtecgdibpfbnfgaaAlive
import Derived.ProofKit
import Derived.OpenShut
import Derived.ShutString
import Derived.ChangeOld
import Derived.SizedLaws
namespace Go.Proofs.Ytecgdibpfbnfgaa.asciiCuts
open Go.ChangeShapes Go.WideShapes Go.ChangeAt Go.RowKit
open Go.ChangeMaps (open_string shut_string)
set_option linter.unusedVariables false

theorem own : ownKnob Try.prog.godebug = none := by kernel_rfl

theorem firstAt_take (p : Int → Bool) : ∀ (l : List UInt8), firstAt p (l.take (firstAt p l)) = firstAt p l
  | [] => rfl
  | c :: r => by
    have ih := firstAt_take p r
    cases hc : p (c.toNat : Int)
    · have e : firstAt p (c :: r) = firstAt p r + 1 := by simp [firstAt, hc]
      rw [e, List.take_succ_cons]
      simp [firstAt, hc, ih]
    · have e : firstAt p (c :: r) = 0 := by simp [firstAt, hc]
      rw [e]
      rfl

theorem u8_of_wf (a : Int) (h : (Lit.int .u8 a).wf = true) : ∃ c : UInt8, a = (c.toNat : Int) := by
  obtain ⟨h1, h2⟩ := bounds_u8 h
  refine ⟨UInt8.ofNat a.toNat, ?_⟩
  rw [UInt8.toNat_ofNat']
  omega

theorem one_back (c : UInt8) (W : World) : Sem.run Try.prog (convert 30 9 (.slice (some ⟨W.heap.size, 0, none⟩) 1 1)) (W.alloc (.cells #[.int .u8 (c.toNat : Int)] 5)) = .ok (.string ⟨#[c]⟩) (W.alloc (.cells #[.int .u8 (c.toNat : Int)] 5)) := by
  refine back_any _ _ 1 1 [c] rfl ⟨fun j hj => ?_, fun j hj => ?_⟩
  · have : j = 0 := by simpa using hj
    subst this
    simp
  · have : j = 0 := by simpa using hj
    subst this
    simp

theorem cut_again (s : ByteArray) (n : Nat) (c : UInt8) (h : firstAt (fun x => x == (c.toNat : Int)) s.data.toList = n) (hn : n < s.size) : (s.extract 0 n ++ ⟨#[c]⟩ ++ s.extract (n + 1) s.size).toList = s.toList := by
  have hl := list_len s
  have hc : s.data.toList[n]'(by omega) = c := by
    have key : ∀ (l : List UInt8) (n : Nat) (hn : n < l.length), firstAt (fun x => x == (c.toNat : Int)) l = n → l[n] = c := by
      intro l
      induction l with
      | nil => intro n hn; simp at hn
      | cons x r ih =>
        intro n hn h
        unfold firstAt at h
        split at h
        · rename_i hx
          subst h
          have : x.toNat = c.toNat := by
            have h := of_decide_eq_true hx
            omega
          simpa using UInt8.toNat_inj.1 this
        · subst h
          simpa using ih _ (by simpa using hn) rfl
    exact key _ n (by omega) h
  rw [ByteArray.toList_eq, ByteArray.toList_eq]
  rw [ByteArray.data_append, ByteArray.data_append, Array.toList_append, Array.toList_append, extract_list, extract_list]
  simp only [List.drop_zero, Nat.sub_zero]
  rw [List.take_of_length_le (l := s.data.toList.drop (n + 1)) (by simp)]
  show List.take n s.data.toList ++ [c] ++ _ = _
  rw [← hc, List.append_assoc, List.singleton_append, ← List.drop_eq_getElem_cons (by omega), List.take_append_drop]

set_option maxHeartbeats 1600000 in
theorem walk (a0 : ByteArray) (a1 : Int) (w0 : a0.size ≤ 140737488351232) (w1 : (Lit.int .u8 a1).wf = true) (w : World) :
    Calls Try.prog 7 #[.string a0, .int .u8 a1] w fun e w' => e = .returned (.bool true) ∧ Below w.heap.size w w' := by
  obtain ⟨sp, rfl⟩ := u8_of_wf a1 w1
  clear w1
  have hm : a0.size ≤ maxLen := by unfold maxLen; omega
  have hle := firstAt_le (fun x => x == (sp.toNat : Int)) a0.data.toList
  rw [list_len] at hle
  by_cases hn : firstAt (fun x => x == (sp.toNat : Int)) a0.data.toList = a0.size
  · have HN := Lib.hid hn
    clear hn hle
    go_enter Try.func7, Try.ntmps7
    go_wp2_with fail
    refine (cut_no a0 _ _ hm HN.out).mono ?_
    rintro _ w1 ⟨rfl, hb1⟩
    go_wp2_with fail
    refine (rcut_no a0 _ _ hm HN.out).mono ?_
    rintro _ w2 ⟨rfl, hb⟩
    have hb2 := chain hb1 hb
    clear hb hb1
    go_wp2_with fail
    refine (alive_any _).mono ?_
    rintro _ w1 ⟨rfl, hb⟩
    have hb1 := chain hb2 hb
    clear hb hb2
    go_wp2
    go_ret
    exact ⟨rfl, hb1⟩
  · generalize hN : firstAt (fun x => x == (sp.toNat : Int)) a0.data.toList = n at *
    have HN := Lib.hid hN
    have hlt : n < a0.size := by omega
    have hx : firstAt (fun x => x == (sp.toNat : Int)) (a0.extract 0 n).data.toList = (a0.extract 0 n).size := by
      rw [← list_len, extract_list]
      simp only [List.drop_zero, Nat.sub_zero]
      have := firstAt_take (fun x => x == (sp.toNat : Int)) a0.data.toList
      rw [hN] at this
      rw [this]
      simp
      omega
    have HXN := Lib.hid hx
    have hxm : (a0.extract 0 n).size ≤ maxLen := by rw [ByteArray.size_extract]; unfold maxLen; omega
    clear hx hN hn hle
    go_enter Try.func7, Try.ntmps7
    go_wp2_with fail
    refine (cut_yes a0 _ n _ hm HN.out hlt).mono ?_
    rintro _ w1 ⟨rfl, hb1⟩
    go_wp2_with fail
    refine (rcut_yes a0 _ n _ hm HN.out hlt).mono ?_
    rintro _ w2 ⟨rfl, hb⟩
    have hb2 := chain hb1 hb
    clear hb hb1
    go_wp2_with fail
    refine (cut_no _ _ _ hxm HXN.out).mono ?_
    rintro _ w1 ⟨rfl, hb⟩
    have hb1 := chain hb2 hb
    clear hb hb2
    go_wp2_with fail
    refine (alive_any _).mono ?_
    rintro _ w2 ⟨rfl, hb⟩
    have hb2 := chain hb1 hb
    clear hb hb1
    have hcv := one_back sp w2
    have hag : ((a0.extract 0 n ++ ⟨#[sp]⟩ ++ a0.extract (n + 1) a0.size).toList == a0.toList) = true := by rw [cut_again a0 n sp HN.out hlt]; simp
    have hs1 : (a0.extract 0 n).size + (ByteArray.mk #[sp]).size ≤ 9223372036854775807 := by
      rw [ByteArray.size_extract]
      show _ + 1 ≤ _
      omega
    have hs2 : (a0.extract 0 n ++ ⟨#[sp]⟩).size + (a0.extract (n + 1) a0.size).size ≤ 9223372036854775807 := by
      rw [ByteArray.size_append, ByteArray.size_extract, ByteArray.size_extract]
      show _ + 1 + _ ≤ _
      omega
    generalize a0.extract 0 n = x at *
    generalize a0.extract (n + 1) a0.size = y at *
    go_wp2
    go_ret
    exact ⟨rfl, hb2.alloc hb2.size _⟩

set_option maxRecDepth 100000 in
theorem lifted (os : Os) (started : os.Started) (H : Type) (enc : TypeId × Value → H) :
    ReturnsInHanded {} Try.checked os 7 .any (Rows.asciiCutsSpec.pre6 enc Try.prog Try.f7 Rows.asciiCutsRow.domain false) (Rows.asciiCutsSpec.post enc Try.prog Try.f7 false true false false) := by
  refine returnsInHanded_of_change_sized (C := Try.checked) own started (by kernel_rfl) Try.func7
    (ChangeSpec.witness6 (enc := enc) (C := Try.checked) false ⟨#[], #[.string ByteArray.empty, .int .u8 0], []⟩ 8 (by kernel_rfl) (by kernel_rfl) (by kernel_rfl) (by kernel_rfl)) ?_
  intro W base args ds gs before hval0 hW hcnd hsz0 _
  have hval : ∀ (j : Nat) t v, Try.f7.params[j]? = some t → args[j]? = some v → Value.okWide Try.prog W .any base t v := hval0
  have hsz : (DataW.weightsEach Try.prog (Try.f7.params.toList ++ Rows.asciiCutsSpec.plain.varTypes Try.prog) (ds ++ gs)).all (· ≤ reachBytes) = true := hsz0
  have hW' := hW
  obtain ⟨p, q, hA0, hV, rfl, hfz, hnd⟩ := hW
  have hA : DataW.TrodAll enc Try.prog W 0 (fun _ => true) true Try.f7.params.toList args.toList ds p := hA0
  rw [Try.params7] at hA hval hsz
  obtain ⟨v0, vs0, d0, ds0, p0, q0, hargs, rfl, rfl, h0, r0⟩ := trodAll_cons hA
  obtain ⟨v1, vs1, d1, ds1, p1, q1, rfl, rfl, rfl, h1, r1⟩ := trodAll_cons r0
  obtain ⟨rfl, rfl, rfl⟩ := trodAll_nil r1
  obtain rfl : args = #[v0, v1] := by cases args; simp_all
  obtain ⟨rfl, rfl⟩ := trodVars_none hV
  obtain ⟨a0, rfl, rfl, rfl, m0⟩ := open_string Try.underlying9 (hval 0 9 v0 rfl rfl) h0
  obtain ⟨a1, rfl, rfl, rfl, w1⟩ := open_int Try.underlying5 (hval 1 5 v1 rfl rfl) h1
  have w0 : a0.size ≤ 140737488351232 := by
    have h := sized_string hsz (j := 0) (t := 9) rfl rfl
    have e : a0.data.toList.length = a0.size := by simp
    unfold reachBytes at h
    omega
  clear hA0 hval0 hsz hsz0
  refine (walk a0 a1 w0 w1 W).mono fun e W' ⟨he, bel⟩ => ?_
  subst he
  exact ⟨_, rfl, _, _, _, [], _, [], hW', trodAll_mk1 (shut_bool Try.underlying4 _), (trodAll_cons_mk (shut_string Try.underlying9 m0) (trodAll_cons_mk (shut_int Try.underlying5 w1) trodAll_mk0)), rfl, bel.frame _, fun h => by cases h⟩

theorem over : Rows.asciiCutsRow.holds Try.pinned (OpenSpec.ofChange Rows.asciiCutsSpec) :=
  OpenClaim.holds_of_wide 7 Try.f7 rfl rfl rfl rfl rfl rfl rfl ⟨rfl, rfl, rfl, rfl, rfl⟩ rfl rfl rfl rfl rfl (by kernel_rfl) Try.func7 (by kernel_rfl)
    (of_decide_eq_true (by kernel_rfl)) (by unfold Func.isWrapper; first | (rw [if_pos (by decide +kernel)]; kernel_rfl) | (rw [if_neg (by decide +kernel)]; exact ⟨rfl, rfl⟩))
    (fun os started H enc _ => lifted os started H enc)

end Go.Proofs.Ytecgdibpfbnfgaa.asciiCuts
namespace Go.Proofs.Ytecgdibpfbnfgaa
/-- The statement. -/
theorem asciiCuts_proved : Rows.AsciiCutsSaid := asciiCuts.over
end Go.Proofs.Ytecgdibpfbnfgaa
