/-
  Texts in quotes: what follows, plain facts that the statements use.
-/
import Derived.Test.YtfpokkpklbkhiaaDoorQuoteMath
namespace Go.Proofs.YtfpokkpklbkhiaaDoor
set_option linter.unusedVariables false

theorem innerL_append (a b : List UInt8) : innerL (a ++ b) = innerL a ++ innerL b := by
  unfold innerL
  rw [List.flatMap_append]

theorem textU_four : ∀ rs : List Nat, (textU rs).length ≤ 4 * rs.length
  | [] => by simp [textU]
  | r :: t => by
    have h1 := (putU_len r).2
    have h2 := textU_four t
    rw [textU_cons, List.length_append, List.length_cons]
    omega

theorem putU_128 (r : Nat) (h : 128 ≤ r) (hr : letter r) : ∀ c ∈ putU r, 128 ≤ c.toNat := by
  have h1 := hr.1
  intro c hc
  unfold putU at hc
  rw [if_neg (by omega)] at hc
  split at hc
  · simp only [List.mem_cons, List.not_mem_nil, or_false] at hc
    rcases hc with rfl | rfl
    · rw [u8n _ (by omega)]; omega
    · rw [u8n _ (by omega)]; omega
  · split at hc
    · simp only [List.mem_cons, List.not_mem_nil, or_false] at hc
      rcases hc with rfl | rfl | rfl
      · rw [u8n _ (by omega)]; omega
      · rw [u8n _ (by omega)]; omega
      · rw [u8n _ (by omega)]; omega
    · simp only [List.mem_cons, List.not_mem_nil, or_false] at hc
      rcases hc with rfl | rfl | rfl | rfl
      · rw [u8n _ (by omega)]; omega
      · rw [u8n _ (by omega)]; omega
      · rw [u8n _ (by omega)]; omega
      · rw [u8n _ (by omega)]; omega

theorem short_table (n : Nat) : (n = 34 ∧ shortN n = 34) ∨ (n = 92 ∧ shortN n = 92) ∨ (n = 8 ∧ shortN n = 98) ∨ (n = 9 ∧ shortN n = 116) ∨ (n = 10 ∧ shortN n = 110) ∨ (n = 12 ∧ shortN n = 102) ∨ (n = 13 ∧ shortN n = 114) ∨ (n ≠ 34 ∧ n ≠ 92 ∧ n ≠ 8 ∧ n ≠ 9 ∧ n ≠ 10 ∧ n ≠ 12 ∧ n ≠ 13 ∧ shortN n = 0) := by
  unfold shortN
  by_cases h1 : n = 34
  · subst h1; simp
  · by_cases h2 : n = 92
    · subst h2; simp
    · by_cases h3 : n = 8
      · subst h3; simp
      · by_cases h4 : n = 9
        · subst h4; simp
        · by_cases h5 : n = 10
          · subst h5; simp
          · by_cases h6 : n = 12
            · subst h6; simp
            · by_cases h7 : n = 13
              · subst h7; simp
              · simp [h1, h2, h3, h4, h5, h6, h7]

/-- A byte from 128 on is written as it is. -/
theorem pieceL_high (c : UInt8) (h : 128 ≤ c.toNat) : pieceL c = [c] := by
  unfold pieceL
  rcases short_table c.toNat with ⟨e, _⟩ | ⟨e, _⟩ | ⟨e, _⟩ | ⟨e, _⟩ | ⟨e, _⟩ | ⟨e, _⟩ | ⟨e, _⟩ | ⟨_, _, _, _, _, _, _, e⟩
  all_goals first
    | (exfalso; omega)
    | rw [if_neg (by rw [e]; simp), if_neg (by omega)]

theorem innerL_high : ∀ l : List UInt8, (∀ c ∈ l, 128 ≤ c.toNat) → innerL l = l
  | [], _ => rfl
  | c :: t, h => by
    show pieceL c ++ innerL t = c :: t
    rw [pieceL_high c (h c (List.mem_cons_self ..)), innerL_high t (fun x hx => h x (List.mem_cons_of_mem _ hx))]
    rfl

theorem valQ_sign (n : Nat) (h : n < 16) : valQ (signQ n) = some n := by
  unfold valQ signQ
  split
  · rw [if_pos (by omega)]
    congr 1
    omega
  · rw [if_neg (by omega), if_pos (by omega)]
    congr 1
    omega
theorem signQ_256 (n : Nat) (h : n < 16) : signQ n < 256 := by
  unfold signQ
  split <;> omega

theorem pieceQ_esc (c : UInt8) (t : List UInt8) (r n : Nat) (hc : c.toNat = 92) (h : escQ t = some (r, n)) : pieceQ (c :: t) = (0, putU r, n) := by
  show (if c.toNat < 32 then _ else if c.toNat = 92 then (match escQ t with | some (r, n) => (0, putU r, n) | none => (73, [], 0)) else _) = _
  rw [if_neg (by omega), if_pos hc, h]
theorem pieceQ_take (c : UInt8) (t : List UInt8) (r n : Nat) (h1 : ¬ c.toNat < 32) (h2 : c.toNat ≠ 92) (h : takeU (c :: t) = (r, n, true)) : pieceQ (c :: t) = (0, (c :: t).take n, n) := by
  show (if c.toNat < 32 then _ else if c.toNat = 92 then _ else if (takeU (c :: t)).2.2 = true then (0, (c :: t).take (takeU (c :: t)).2.1, (takeU (c :: t)).2.1) else (74, [], 0)) = _
  rw [if_neg h1, if_neg h2, h, if_pos rfl]

/-- A piece stands for no more bytes than it has. -/
theorem putU_le (r : Nat) : (r < 128 → (putU r).length = 1) ∧ (r < 65536 → (putU r).length ≤ 3) ∧ (putU r).length ≤ 4 := by
  refine ⟨fun h => ?_, fun h => ?_, (putU_len r).2⟩
  · unfold putU
    rw [if_pos h]
    rfl
  · unfold putU
    repeat' split
    all_goals first | simp | omega
theorem escQ_long (l : List UInt8) (r n : Nat) (h : escQ l = some (r, n)) : (putU r).length ≤ n := by
  obtain ⟨p1, p2, p3⟩ := putU_le r
  cases l with
  | nil => cases h
  | cons c t =>
    replace h : (match backN c.toNat with | some r => some (r, 2) | none => match numQ (c :: t) with | none => none | some n => if 56320 ≤ n ∧ n ≤ 57343 then none else if n < 55296 ∨ 57343 < n then some (n, 6) else (pairQ n (t.drop 4)).map fun r => (r, 12)) = some (r, n) := h
    cases hb : backN c.toNat with
    | some x =>
      rw [hb] at h
      simp only [Option.some.injEq, Prod.mk.injEq] at h
      obtain ⟨rfl, rfl⟩ := h
      have := p1 (backN_lt _ _ hb)
      omega
    | none =>
      rw [hb] at h
      simp only at h
      cases hn : numQ (c :: t) with
      | none => rw [hn] at h; cases h
      | some m =>
        rw [hn] at h
        simp only at h
        split at h
        · cases h
        · split at h
          · simp only [Option.some.injEq, Prod.mk.injEq] at h
            obtain ⟨_, rfl⟩ := h
            omega
          · rw [Option.map_eq_some_iff] at h
            obtain ⟨x, _, he⟩ := h
            simp only [Prod.mk.injEq] at he
            obtain ⟨_, rfl⟩ := he
            omega
theorem pieceQ_long (l : List UInt8) (h : (pieceQ l).1 = 0) : (pieceQ l).2.1.length ≤ (pieceQ l).2.2 := by
  cases l with
  | nil => cases h
  | cons c t =>
    have h0 : pieceQ (c :: t) = if c.toNat < 32 then (72, [], 0) else if c.toNat = 92 then (match escQ t with | some (r, n) => (0, putU r, n) | none => (73, [], 0)) else if (takeU (c :: t)).2.2 = true then (0, (c :: t).take (takeU (c :: t)).2.1, (takeU (c :: t)).2.1) else (74, [], 0) := rfl
    rw [h0] at h ⊢
    by_cases h1 : c.toNat < 32
    · rw [if_pos h1] at h; cases h
    · rw [if_neg h1] at h ⊢
      by_cases h2 : c.toNat = 92
      · rw [if_pos h2] at h ⊢
        cases he : escQ t with
        | none => rw [he] at h; cases h
        | some p =>
          obtain ⟨r, n⟩ := p
          exact escQ_long t r n he
      · rw [if_neg h2] at h ⊢
        by_cases h3 : (takeU (c :: t)).2.2 = true
        · rw [if_pos h3]
          exact List.length_take_le _ _
        · rw [if_neg h3] at h; cases h

/-- What a letter is written as is read as it. -/
theorem pieceQ_inner (r : Nat) (b : List UInt8) (hr : letter r) : pieceQ (innerL (putU r) ++ b) = (0, putU r, (innerL (putU r)).length) ∧ (innerL (putU r) ++ b).head? ≠ some 34 := by
  by_cases h : r < 128
  · have hp : putU r = [UInt8.ofNat r] := by unfold putU; rw [if_pos h]
    have hn : (UInt8.ofNat r).toNat = r := u8n r (by omega)
    have hi : innerL (putU r) = pieceL (UInt8.ofNat r) := by rw [hp]; simp [innerL]
    rw [hi]
    by_cases hs : shortN r ≠ 0
    · have hl : pieceL (UInt8.ofNat r) = [92, UInt8.ofNat (shortN r)] := by unfold pieceL; rw [hn, if_pos hs]
      rw [hl]
      refine ⟨?_, by simp⟩
      have hb : backN (UInt8.ofNat (shortN r)).toNat = some r := by
        rcases short_table r with ⟨rfl, e⟩ | ⟨rfl, e⟩ | ⟨rfl, e⟩ | ⟨rfl, e⟩ | ⟨rfl, e⟩ | ⟨rfl, e⟩ | ⟨rfl, e⟩ | ⟨_, _, _, _, _, _, _, e⟩
        all_goals first
          | exact absurd e hs
          | (rw [e]; rfl)
      refine pieceQ_esc 92 _ r 2 rfl ?_
      show (match backN (UInt8.ofNat (shortN r)).toNat with | some r => some (r, 2) | none => _) = _
      rw [hb]
    · have hs0 : ¬ shortN r ≠ 0 := hs
      by_cases h32 : r < 32
      · have hl : pieceL (UInt8.ofNat r) = [92, 117, 48, 48, UInt8.ofNat (signQ (r / 16)), UInt8.ofNat (signQ (r % 16))] := by unfold pieceL; rw [hn, if_neg hs0, if_pos h32]
        rw [hl]
        refine ⟨?_, by simp⟩
        refine pieceQ_esc 92 _ r 6 rfl ?_
        have hf : fourQ 48 48 (UInt8.ofNat (signQ (r / 16))).toNat (UInt8.ofNat (signQ (r % 16))).toNat = some r := by
          rw [u8n _ (signQ_256 _ (by omega)), u8n _ (signQ_256 _ (by omega))]
          unfold fourQ
          rw [valQ_sign _ (by omega), valQ_sign _ (by omega), show valQ 48 = some 0 from rfl]
          simp only
          congr 1
          omega
        have hq : numQ (117 :: 48 :: 48 :: UInt8.ofNat (signQ (r / 16)) :: UInt8.ofNat (signQ (r % 16)) :: b) = some r := by
          show (if (117 : UInt8).toNat = 117 then fourQ (48 : UInt8).toNat (48 : UInt8).toNat _ _ else none) = _
          rw [if_pos (by decide)]
          exact hf
        show (match backN (117 : UInt8).toNat with | some r => some (r, 2) | none => match numQ (117 :: 48 :: 48 :: UInt8.ofNat (signQ (r / 16)) :: UInt8.ofNat (signQ (r % 16)) :: b) with | none => none | some n => if 56320 ≤ n ∧ n ≤ 57343 then none else if n < 55296 ∨ 57343 < n then some (n, 6) else _) = _
        rw [show backN (117 : UInt8).toNat = none from rfl, hq]
        simp only
        rw [if_neg (by omega), if_pos (by omega)]
      · have hl : pieceL (UInt8.ofNat r) = [UInt8.ofNat r] := by unfold pieceL; rw [hn, if_neg hs0, if_neg h32]
        rw [hl]
        have h34 : r ≠ 34 := by intro e; subst e; exact hs (by decide)
        have h92 : r ≠ 92 := by intro e; subst e; exact hs (by decide)
        have ht := takeU_put r b hr
        rw [hp] at ht
        refine ⟨?_, ?_⟩
        · have := pieceQ_take (UInt8.ofNat r) b r 1 (by rw [hn]; exact h32) (by rw [hn]; exact h92) ht
          show pieceQ (UInt8.ofNat r :: b) = _
          rw [this, hp]
          rfl
        · show some (UInt8.ofNat r) ≠ some 34
          intro e
          have := congrArg UInt8.toNat (Option.some.inj e)
          rw [hn] at this
          exact h34 this
  · have hhi := putU_128 r (by omega) hr
    have hi : innerL (putU r) = putU r := innerL_high _ hhi
    rw [hi]
    have ht := takeU_put r b hr
    have hl := (putU_len r).1
    cases hp : putU r with
    | nil => rw [hp] at hl; simp at hl
    | cons c t =>
      rw [hp] at hhi ht
      have hc := hhi c (List.mem_cons_self ..)
      refine ⟨?_, ?_⟩
      · show pieceQ (c :: (t ++ b)) = _
        rw [pieceQ_take c (t ++ b) r _ (by omega) (by omega) ht]
        congr 1
        congr 1
        show (c :: t ++ b).take (c :: t).length = c :: t
        rw [List.take_left]
      · show some c ≠ some 34
        intro e
        have := congrArg UInt8.toNat (Option.some.inj e)
        have e34 : (34 : UInt8).toNat = 34 := rfl
        omega

theorem read_inner : ∀ (rs : List Nat) (b out : List UInt8) (k : Nat), letters rs → readR (innerL (textU rs) ++ 34 :: b) out k = (0, out ++ textU rs, k + (innerL (textU rs)).length + 1)
  | [], b, out, k, _ => by
    have : innerL (textU []) = [] := rfl
    rw [this, List.nil_append, readR_end _ _ _ rfl]
    simp [textU]
  | r :: t, b, out, k, h => by
    have hr := h r (List.mem_cons_self ..)
    have ht : letters t := fun x hx => h x (List.mem_cons_of_mem _ hx)
    have e : innerL (textU (r :: t)) ++ 34 :: b = innerL (putU r) ++ (innerL (textU t) ++ 34 :: b) := by rw [textU_cons, innerL_append, List.append_assoc]
    obtain ⟨h1, h2⟩ := pieceQ_inner r (innerL (textU t) ++ 34 :: b) hr
    rw [e, readR_step _ out k h2 (by rw [h1]), h1]
    simp only
    rw [List.drop_left, read_inner t b _ _ ht, textU_cons, innerL_append, List.length_append, List.append_assoc]
    congr 2
    omega

theorem read_quote (rs : List Nat) (b : List UInt8) (h : letters rs) : readQ (quoteL (textU rs) ++ b) = (0, textU rs, (quoteL (textU rs)).length) := by
  have e : quoteL (textU rs) ++ b = 34 :: (innerL (textU rs) ++ 34 :: b) := by unfold quoteL; simp
  rw [e]
  show (if some (34 : UInt8) = some 34 then readR (innerL (textU rs) ++ 34 :: b) [] 1 else _) = _
  rw [if_pos rfl, read_inner rs b [] 1 h, List.nil_append]
  congr 2
  unfold quoteL
  simp
  omega

/-- A text that is valid. -/
theorem read_valid (s b : List UInt8) (rs : List Nat) (h : runesU s = some rs) : readQ (quoteL s ++ b) = (0, s, (quoteL s).length) := by
  obtain ⟨h1, rfl⟩ := (runesU_iff s rs).1 h
  exact read_quote rs b h1

theorem readQ_cases (s : List UInt8) : (∃ e, e ≠ 0 ∧ readQ s = (e, [], 0)) ∨ (∃ rs n, letters rs ∧ rs.length ≤ s.length ∧ n ≤ s.length ∧ readQ s = (0, textU rs, n) ∧ ∀ b, readQ (s ++ b) = readQ s) := by
  unfold readQ
  by_cases h : s.head? = some 34
  · rw [if_pos h]
    cases s with
    | nil => cases h
    | cons c t =>
      rcases readR_cases t.length t [] 1 (Nat.le_refl _) with ⟨e, h1, h2⟩ | ⟨rs, n, h1, hq, h2, h3, h4⟩
      · exact .inl ⟨e, h1, h2⟩
      · refine .inr ⟨rs, n, h1, by rw [List.length_cons]; omega, by rw [List.length_cons]; omega, by simpa using h3, fun b => ?_⟩
        have hb : (c :: t ++ b).head? = some 34 := h
        rw [if_pos hb]
        exact h4 b
  · rw [if_neg h]
    exact .inl ⟨70, by decide, rfl⟩

/-- Of a beginning nothing is read. -/
theorem read_cut (s : List UInt8) (rs : List Nat) (h : runesU s = some rs) (cut : Nat) (hc : cut < (quoteL s).length) : ∃ e, e ≠ 0 ∧ readQ ((quoteL s).take cut) = (e, [], 0) := by
  rcases readQ_cases ((quoteL s).take cut) with h1 | ⟨qs, n, _, _, h2, h3, h4⟩
  · exact h1
  · exfalso
    have h5 := h4 ((quoteL s).drop cut)
    rw [List.take_append_drop] at h5
    have h6 := read_valid s [] rs h
    rw [List.append_nil, h5, h3] at h6
    have h7 : n = (quoteL s).length := (Prod.mk.inj (Prod.mk.inj h6).2).2
    rw [List.length_take] at h2
    omega

theorem quoteL_len (s : List UInt8) : 2 ≤ (quoteL s).length := by
  unfold quoteL
  simp
theorem quote_join (a b : List UInt8) : (quoteL a).take ((quoteL a).length - 1) ++ (quoteL b).drop 1 = quoteL (a ++ b) := by
  have e : quoteL a = (34 :: innerL a) ++ [34] := by unfold quoteL; simp
  have e2 : (quoteL a).take ((quoteL a).length - 1) = 34 :: innerL a := by
    rw [e, List.length_append, List.length_singleton, Nat.add_sub_cancel, List.take_left]
  rw [e2]
  unfold quoteL
  rw [innerL_append]
  simp

theorem quote_inj (a b : List UInt8) (ra rb : List Nat) (ha : runesU a = some ra) (hb : runesU b = some rb) (h : quoteL a = quoteL b) : a = b := by
  have h1 := read_valid a [] ra ha
  have h2 := read_valid b [] rb hb
  rw [h, h2] at h1
  exact (Prod.mk.inj (Prod.mk.inj h1).2).1.symm

theorem pieceL_32 (c : UInt8) : ∀ x ∈ pieceL c, 32 ≤ x.toNat := by
  intro x hx
  have hc := c.toNat_lt
  unfold pieceL at hx
  split at hx
  · rename_i hs
    simp only [List.mem_cons, List.not_mem_nil, or_false] at hx
    rcases hx with rfl | rfl
    · decide
    · rcases short_table c.toNat with ⟨_, e⟩ | ⟨_, e⟩ | ⟨_, e⟩ | ⟨_, e⟩ | ⟨_, e⟩ | ⟨_, e⟩ | ⟨_, e⟩ | ⟨_, _, _, _, _, _, _, e⟩
      all_goals first
        | exact absurd e hs
        | (rw [e]; decide)
  · split at hx
    · rename_i h32
      have s1 : 48 ≤ signQ (c.toNat / 16) := by unfold signQ; split <;> omega
      have s2 : 48 ≤ signQ (c.toNat % 16) := by unfold signQ; split <;> omega
      simp only [List.mem_cons, List.not_mem_nil, or_false] at hx
      rcases hx with rfl | rfl | rfl | rfl | rfl | rfl
      · decide
      · decide
      · decide
      · decide
      · rw [u8n _ (signQ_256 _ (by omega))]; omega
      · rw [u8n _ (signQ_256 _ (by omega))]; omega
    · rename_i h32
      simp only [List.mem_cons, List.not_mem_nil, or_false] at hx
      rw [hx]
      omega
theorem quoteL_32 (s : List UInt8) : ∀ x ∈ quoteL s, 32 ≤ x.toNat := by
  intro x hx
  unfold quoteL at hx
  rcases List.mem_cons.1 hx with rfl | hx
  · decide
  · rcases List.mem_append.1 hx with hx | hx
    · obtain ⟨c, _, hc⟩ := List.mem_flatMap.1 hx
      exact pieceL_32 c x hc
    · rw [List.mem_singleton.1 hx]
      decide
end Go.Proofs.YtfpokkpklbkhiaaDoor
