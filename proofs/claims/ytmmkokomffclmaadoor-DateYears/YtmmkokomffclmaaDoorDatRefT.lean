/-
  The document's own answers (package cracknelref10): time: a contract.
-/
import Derived.Test.YtmmkokomffclmaaDoorDatRefA
import Derived.Test.YtmmkokomffclmaaDoorBaseInts
import Derived.Test.YtmmkokomffclmaaDoorDecRunf
namespace Go.Proofs.YtmmkokomffclmaaDoor
open Go.RowKit
set_option linter.unusedVariables false

/-- k numbers to come, with colons between. -/
def timeG : Nat → List Nat → List UInt8 → Option (List Nat)
  | 0, had, _ => some had
  | k + 1, had, l => match two12 l with
    | none => none
    | some (a, r) => if k = 0 then some (had ++ [a]) else match colon r with
      | none => none
      | some t => timeG k (had ++ [a]) t

theorem timeG_timeL (l : List UInt8) : timeG 3 [] l = (timeL l).map fun p => [p.1, p.2.1, p.2.2] := by
  unfold timeL
  rw [timeG]
  cases two12 l with
  | none => rfl
  | some p =>
    obtain ⟨a, l1⟩ := p
    simp only [List.nil_append, if_neg (show ¬ (2 : Nat) = 0 by decide)]
    cases colon l1 with
    | none => rfl
    | some l2 =>
      simp only []
      rw [timeG]
      cases two12 l2 with
      | none => rfl
      | some p =>
        obtain ⟨b, l3⟩ := p
        simp only [if_neg (show ¬ (1 : Nat) = 0 by decide)]
        cases colon l3 with
        | none => rfl
        | some l4 =>
          simp only []
          rw [timeG]
          cases two12 l4 with
          | none => rfl
          | some p => rfl

theorem two12_none (l : List UInt8) (h : digN l < 1 ∨ 2 < digN l) : two12 l = none := by unfold two12; rw [if_pos h]
theorem two12_some (l : List UInt8) (h : ¬ (digN l < 1 ∨ 2 < digN l)) : two12 l = some (valN (l.take (digN l)), l.drop (digN l)) := by unfold two12; rw [if_neg h]

theorem digN_all : ∀ l : List UInt8, allD (l.take (digN l)) = true
  | [] => rfl
  | c :: t => by
    show allD ((c :: t).take (if isD c = true then digN t + 1 else 0)) = true
    by_cases h : isD c = true
    · rw [if_pos h, List.take_succ_cons]
      show (isD c && allD (t.take (digN t))) = true
      rw [h, digN_all t]
      rfl
    · rw [if_neg h]; rfl

/-- What time answers. -/
def TimeRes (base : Nat) (o : Option (List Nat)) (e : Ending) (w' : World) : Prop :=
  match o with
  | none => e = .returned (.tuple #[.slice none 0 0, .bool false])
  | some l => ∃ v, e = .returned (.tuple #[v, .bool true]) ∧ RowI w' base v (l.map fun (n : Nat) => (n : Int))

def TimeAt (s : ByteArray) (g : Nat) (w0 : World) (gk : Nat) (rest out i : Value) (wr : World) : Prop :=
  ∃ (b : ByteArray) (k : Nat) (had : List Nat), rest = .string b ∧ i = .int .i64 (k : Int) ∧ k + gk = 4 ∧ 1 ≤ gk ∧ had.length = k ∧ b.size ≤ s.size ∧
    timeG (3 - k) had b.data.toList = timeG 3 [] s.data.toList ∧ RowI wr g out (had.map fun (n : Nat) => (n : Int)) ∧ Below g w0 wr ∧ g ≤ wr.heap.size

theorem pref_list (b : ByteArray) (n : Nat) : (b.extract 0 n).data.toList = b.data.toList.take n := by
  rw [extract_list]; simp
theorem rest_list (b : ByteArray) (n : Nat) : (b.extract n b.size).data.toList = b.data.toList.drop n := by
  rw [extract_list, List.take_of_length_le]
  rw [List.length_drop, list_len]
  omega

theorem colon_not (b : ByteArray) (h : 0 < b.size) (hc : b[0] ≠ 58) : colon b.data.toList = none := by
  have e := drop_cons b 0 h
  rw [List.drop_zero] at e
  rw [e, colon_cons, if_neg (by simpa using hc)]
theorem colon_yes (b : ByteArray) (h : 0 < b.size) (hc : b[0] = 58) : colon b.data.toList = some (b.extract 1 b.size).data.toList := by
  have e := drop_cons b 0 h
  rw [List.drop_zero] at e
  rw [rest_list, e, colon_cons, if_pos (by simpa using hc)]
  rfl

theorem not58 (c : UInt8) (h : ¬ c = 58) : ¬ (c.toNat : Int) = 58 := fun e => by
  have h2 : c.toNat = (58 : UInt8).toNat := by show c.toNat = 58; omega
  exact h (UInt8.toNat.inj h2)

set_option maxRecDepth 100000 in
set_option maxHeartbeats 1600000 in
theorem rtime_any (s : ByteArray) (w : World) (hs : s.size ≤ 1000000000) :
    Calls Tryd.prog 51 #[.string s] w fun e w' => TimeRes w.heap.size (timeG 3 [] s.data.toList) e w' ∧ Below w.heap.size w w' := by
  go_enter Tryd.func51, Tryd.ntmps51
  go_wp2
  go_loopg [0, 4, 5] 4 (fun gk rest out i wr => TimeAt s w.heap.size w gk rest out i wr)
  case atStart => exact ⟨s, 0, [], rfl, rfl, by omega, by omega, rfl, by omega, rfl, RowI.nil _ _, Below.refl _ _, Nat.le_refl _⟩
  case round =>
    obtain ⟨b, k, had, rfl, rfl, hk, hg1, hhk, hbs, hinv, hrow, hbe, hsz⟩ := hrel
    have HI := Lib.hid hinv
    have HR := Lib.hid hrow
    have hol : (had.map fun (n : Nat) => (n : Int)).length = k := by rw [List.length_map]; exact hhk
    clear hinv hrow
    by_cases hlt : k < 3
    · obtain ⟨j, hj⟩ : ∃ j, 3 - k = j + 1 := ⟨2 - k, by omega⟩
      rw [hj] at HI
      obtain ⟨n, hn⟩ : ∃ n, n = digN b.data.toList := ⟨_, rfl⟩
      have HD := Lib.hid (dcount_any b · (by omega))
      have hle := digN_le b.data.toList
      rw [list_len] at hle
      rw [← hn] at HD hle
      have HN := Lib.hid hn
      clear hn
      by_cases hbad : n < 1 ∨ 2 < n
      · have HE : Hid (timeG 3 [] s.data.toList = none) := by
          show _ = _
          rw [← HI.out, timeG, two12_none _ (by rw [← HN.out]; exact hbad)]
        rcases (show n < 1 ∨ (¬ n < 1 ∧ 2 < n) from by omega) with h1 | ⟨h1, h2⟩
        all_goals
          clear hbad
          go_wp2_with fail
          refine (HD.out _).mono ?_
          rintro _ wz ⟨rfl, rfl⟩
          go_wp2
          go_ret2
          exact ⟨by rw [HE.out]; exact rfl, hbe⟩
      · have HE : Hid (timeG 3 [] s.data.toList = if j = 0 then some (had ++ [valN (b.data.toList.take n)]) else match colon (b.extract n b.size).data.toList with | none => none | some t => timeG j (had ++ [valN (b.data.toList.take n)]) t) := by
          show _ = _
          rw [← HI.out, timeG, two12_some _ (by rw [← HN.out]; exact hbad), rest_list, ← HN.out]
        have n1 : 1 ≤ n := by omega
        have n2 : n ≤ 2 := by omega
        obtain ⟨a, ha⟩ : ∃ a, a = valN (b.data.toList.take n) := ⟨_, rfl⟩
        have hes : (b.extract 0 n).size = n := by rw [ByteArray.size_extract]; omega
        have HF := Lib.hid (runfixed_yes (b.extract 0 n) a · (by omega) (by omega) (by rw [pref_list, HN.out]; exact digN_all _) (by rw [pref_list]; exact ha.symm))
        rw [← ha] at HE
        have hrs : (b.extract n b.size).size = b.size - n := by rw [ByteArray.size_extract]; omega
        clear hbad HI ha
        by_cases hj0 : j = 0
        · have HE2 : Hid (timeG 3 [] s.data.toList = some (had ++ [a])) := by
            show _ = _
            rw [HE.out, if_pos hj0]
          have hk2 : k = 2 := by omega
          subst hk2
          clear HE
          go_wp2_with fail
          refine (HD.out _).mono ?_
          rintro _ wz ⟨rfl, rfl⟩
          go_wp2_with fail
          refine (HF.out _).mono ?_
          rintro _ wy ⟨rfl, rfl⟩
          go_wp2_with (at_builtin; refine wpList_pushI rfl _ _ rfl HR.out rfl rfl (by omega) hsz ?_; intro v' w2 hrow' hB' hsz')
          have hbe3 := hB' _ _ hbe (Nat.le_refl _)
          have hrow2 : RowI w2 w.heap.size v' ((had ++ [a]).map fun (n : Nat) => (n : Int)) := by
            rw [List.map_append]
            exact hrow'
          have HR2 := Lib.hid hrow2
          clear hB' hrow' hrow2 HR HD HF
          go_wp2
          go_roundg (gk - 1)
          case measure => omega
          case rel => exact ⟨_, 3, had ++ [a], rfl, rfl, by omega, by omega, by rw [List.length_append]; simp; omega, by omega, HE2.out.symm, HR2.out, hbe3, hsz'⟩
        · by_cases hz : b.size = n
          · have HE2 : Hid (timeG 3 [] s.data.toList = none) := by
              show _ = _
              have e : (b.extract n b.size).data.toList = [] := List.length_eq_zero_iff.1 (by rw [list_len, hrs]; omega)
              rw [HE.out, if_neg hj0, e]
              rfl
            have hk2 : k < 2 := by omega
            clear HE
            go_wp2_with fail
            refine (HD.out _).mono ?_
            rintro _ wz ⟨rfl, rfl⟩
            go_wp2_with fail
            refine (HF.out _).mono ?_
            rintro _ wy ⟨rfl, rfl⟩
            go_wp2_with (at_builtin; refine wpList_pushI rfl _ _ rfl HR.out rfl rfl (by omega) hsz ?_; intro v' w2 hrow' hB' hsz')
            have hbe3 := hB' _ _ hbe (Nat.le_refl _)
            have hrow2 : RowI w2 w.heap.size v' ((had ++ [a]).map fun (n : Nat) => (n : Int)) := by
              rw [List.map_append]
              exact hrow'
            have HR2 := Lib.hid hrow2
            clear hB' hrow' hrow2 HR HD HF
            go_wp2
            go_ret2
            exact ⟨by rw [HE2.out]; exact rfl, hbe3⟩
          · have hr0 : 0 < (b.extract n b.size).size := by omega
            have hk2 : k < 2 := by omega
            by_cases hc : (b.extract n b.size)[0] = 58
            · have HE2 : Hid (timeG 3 [] s.data.toList = timeG j (had ++ [a]) ((b.extract n b.size).extract 1 (b.size - n)).data.toList) := by
                show _ = _
                rw [HE.out, if_neg hj0, colon_yes _ hr0 hc, hrs]
              have hci : ((b.extract n b.size)[0].toNat : Int) = 58 := by rw [hc]; rfl
              have hxs : ((b.extract n b.size).extract 1 (b.size - n)).size = b.size - n - 1 := by rw [ByteArray.size_extract, hrs]; omega
              have hj' : 3 - (k + 1) = j := by omega
              clear HE hc
              go_wp2_with fail
              refine (HD.out _).mono ?_
              rintro _ wz ⟨rfl, rfl⟩
              go_wp2_with fail
              refine (HF.out _).mono ?_
              rintro _ wy ⟨rfl, rfl⟩
              go_wp2_with (at_builtin; refine wpList_pushI rfl _ _ rfl HR.out rfl rfl (by omega) hsz ?_; intro v' w2 hrow' hB' hsz')
              have hbe3 := hB' _ _ hbe (Nat.le_refl _)
              have hrow2 : RowI w2 w.heap.size v' ((had ++ [a]).map fun (n : Nat) => (n : Int)) := by
                rw [List.map_append]
                exact hrow'
              have HR2 := Lib.hid hrow2
              clear hB' hrow' hrow2 HR HD HF
              go_wp2
              go_roundg (gk - 1)
              case measure => omega
              case rel => exact ⟨_, k + 1, had ++ [a], rfl, by go_num, by omega, by omega, by rw [List.length_append]; simp; omega, by omega, by rw [hj']; exact HE2.out.symm, HR2.out, hbe3, hsz'⟩
            · have HE2 : Hid (timeG 3 [] s.data.toList = none) := by
                show _ = _
                rw [HE.out, if_neg hj0, colon_not _ hr0 hc]
              have hci := not58 _ hc
              have hci2 : (((b.extract n b.size)[0].toNat : Int) == 58) = false := by rw [beq_eq_false_iff_ne]; exact hci
              have hci3 : (((b.extract n b.size)[0].toNat : Int) != 58) = true := by rw [bne_iff_ne]; exact hci
              clear HE hc
              go_wp2_with fail
              refine (HD.out _).mono ?_
              rintro _ wz ⟨rfl, rfl⟩
              go_wp2_with fail
              refine (HF.out _).mono ?_
              rintro _ wy ⟨rfl, rfl⟩
              go_wp2_with (at_builtin; refine wpList_pushI rfl _ _ rfl HR.out rfl rfl (by omega) hsz ?_; intro v' w2 hrow' hB' hsz')
              have hbe3 := hB' _ _ hbe (Nat.le_refl _)
              have hrow2 : RowI w2 w.heap.size v' ((had ++ [a]).map fun (n : Nat) => (n : Int)) := by
                rw [List.map_append]
                exact hrow'
              have HR2 := Lib.hid hrow2
              clear hB' hrow' hrow2 HR HD HF
              go_wp2
              go_ret2
              exact ⟨by rw [HE2.out]; exact rfl, hbe3⟩
    · have ek : k = 3 := by omega
      subst ek
      have HE : Hid (timeG 3 [] s.data.toList = some had) := HI.out.symm
      have HS := HR
      clear HI HR
      go_wp2
      go_ret2
      exact ⟨by rw [HE.out]; exact ⟨_, rfl, HS.out⟩, hbe⟩
end Go.Proofs.YtmmkokomffclmaaDoor
