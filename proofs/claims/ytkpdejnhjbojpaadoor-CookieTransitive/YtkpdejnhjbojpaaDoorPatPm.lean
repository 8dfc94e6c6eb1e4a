/-
  Paths and addresses, plain: what the library's calls tell, in the words of PatMath.
-/
import Derived.Test.YtkpdejnhjbojpaaDoorCkMa
import Derived.Lib.Strings
import Derived.Lib.LastIndexByte
namespace Go.Proofs.YtkpdejnhjbojpaaDoor
set_option linter.unusedVariables false

theorem pre_slash (l : List UInt8) : ([47] : List UInt8).isPrefixOf l = decide (l.getD 0 0 = 47) := by
  cases l with
  | nil => rfl
  | cons c t =>
    show ((47 : UInt8) == c && ([] : List UInt8).isPrefixOf t) = decide (c = 47)
    rw [show ([] : List UInt8).isPrefixOf t = true by cases t <;> rfl, Bool.and_true]
    by_cases h : c = 47
    · subst h; rfl
    · rw [decide_eq_false h]; exact beq_eq_false_iff_ne.2 (fun e => h e.symm)

theorem suf_slash (l : List UInt8) : ([47] : List UInt8).isSuffixOf l = (decide (0 < l.length) && decide (l.getD (l.length - 1) 0 = 47)) := by
  rcases List.eq_nil_or_concat l with rfl | ⟨a, c, rfl⟩
  · rfl
  · rw [Bool.eq_iff_iff, List.isSuffixOf_iff_suffix]
    rw [List.concat_eq_append, List.length_append]
    simp only [List.length_cons, List.length_nil, Nat.zero_add, Nat.add_sub_cancel, Bool.and_eq_true, decide_eq_true_eq]
    have e : (a ++ [c]).getD a.length 0 = c := by rw [List.getD_eq_getElem?_getD]; simp
    rw [e]
    constructor
    · rintro ⟨t, ht⟩
      have := List.append_inj' ht rfl
      exact ⟨by omega, by have := this.2; injection this with h _; exact h.symm⟩
    · rintro ⟨_, rfl⟩
      exact ⟨a, rfl⟩

/-- Does r match c, by what is behind c in r? -/
theorem pm_cut (r c : List UInt8) : pmB r c = (c.isPrefixOf r && ((decide (r.drop c.length = []) || ([47] : List UInt8).isSuffixOf c) || ([47] : List UInt8).isPrefixOf (r.drop c.length))) := by
  cases h : c.isPrefixOf r with
  | false =>
    rw [Bool.false_and]
    cases hp : pmB r c with
    | false => rfl
    | true =>
      have := (pm_prefix r c hp).2
      have hpre : c <+: r := ⟨r.drop c.length, by
        have e := List.take_append_drop c.length r
        rw [this] at e
        exact e⟩
      rw [← List.isPrefixOf_iff_prefix, h] at hpre
      cases hpre
  | true =>
    obtain ⟨t, rfl⟩ := List.isPrefixOf_iff_prefix.1 h
    rw [List.drop_left, Bool.true_and]
    by_cases ht : t = []
    · subst ht
      rw [List.append_nil, pm_self]
      simp
    · rw [pm_more c t ht, decide_eq_false ht, Bool.false_or, suf_slash, pre_slash, Bool.or_comm]

theorem last_at (s : ByteArray) : ∀ k, k < s.size → s.data.toList.getD 0 0 = 47 → Lib.lastIdx s 47 (k + 1) = (lastAt s.data.toList k : Int)
  | 0, hk, h0 => by
    have e : s.data[0]! = 47 := by
      rw [getElem!_pos s.data 0 (by simpa using hk)]
      rw [List.getD_eq_getElem?_getD, List.getElem?_eq_getElem (by simpa using hk)] at h0
      simpa using h0
    rw [Lib.lastIdx_hit s 47 0 (by rw [e]; rfl)]
    rfl
  | k + 1, hk, h0 => by
    have e : s.data.toList.getD (k + 1) 0 = s.data[k + 1]! := by
      rw [getElem!_pos s.data (k + 1) (by simpa using hk), List.getD_eq_getElem?_getD, List.getElem?_eq_getElem (by simpa using hk)]
      simp
    by_cases h : s.data[k + 1]! = 47
    · rw [Lib.lastIdx_hit s 47 (k + 1) (by rw [h]; rfl)]
      unfold lastAt
      rw [if_pos (by rw [e]; exact h)]
    · rw [Lib.lastIdx_miss s 47 (k + 1) (fun hh => h (by
        have hh' : (s.data[k + 1]!).toNat = 47 := by omega
        exact UInt8.toNat_inj.1 hh')), last_at s k (by omega) h0]
      unfold lastAt
      rw [if_neg (by rw [e]; exact h)]
      cases k <;> rfl

theorem right_pre (l : List UInt8) : rightB l = (decide (l.length ≤ 64) && ([47] : List UInt8).isPrefixOf l && l.all plainC) := by
  unfold rightB
  rw [pre_slash]
  cases l with
  | nil => rfl
  | cons c t => rw [decide_eq_true (show 1 ≤ (c :: t).length by simp), Bool.true_and]

/-! An address as a text -/

theorem restA_is (sec : Bool) (h p : List UInt8) (hr : restA sec (h ++ p) = ⟨0, sec, h, p⟩) : hostB (h.map lowC) = true ∧ h.map lowC = h ∧ rightB p = true ∧ p.any asksC = false := by
  unfold restA at hr
  by_cases hh : hostB ((untilL endsC (h ++ p)).map lowC) = true
  · rw [if_pos hh] at hr
    obtain ⟨q, hq⟩ : ∃ q, q = (if untilL asksC ((h ++ p).drop (untilL endsC (h ++ p)).length) = [] then [47] else untilL asksC ((h ++ p).drop (untilL endsC (h ++ p)).length)) := ⟨_, rfl⟩
    have hr' : (if rightB q = true then (⟨0, sec, (untilL endsC (h ++ p)).map lowC, q⟩ : Ad) else adNo 122) = ⟨0, sec, h, p⟩ := by rw [hq]; exact hr
    clear hr
    by_cases hb : rightB q = true
    · rw [if_pos hb] at hr'
      injection hr' with _ _ e3 e4
      have hl : (untilL endsC (h ++ p)).length = h.length := by
        have := congrArg List.length e3
        rwa [List.length_map] at this
      have hu : untilL endsC (h ++ p) = h := by
        have hpre : untilL endsC (h ++ p) <+: h ++ p := List.takeWhile_prefix _
        have := List.prefix_iff_eq_take.1 hpre
        rw [hl, List.take_left] at this
        exact this
      rw [hu, List.drop_left] at hq
      rw [hu] at hh e3
      subst e4
      by_cases hn : untilL asksC q = []
      · rw [if_pos hn] at hq
        rw [hq] at hn
        exact absurd hn (by decide)
      · rw [if_neg hn] at hq
        refine ⟨hh, e3, hb, ?_⟩
        rw [List.any_eq_false]
        intro x hx
        have hx2 : x ∈ untilL asksC q := by rw [← hq]; exact hx
        have := List.all_eq_true.1 (List.all_takeWhile (p := fun c => !asksC c) (l := q)) x hx2
        simpa using this
    · rw [if_neg hb] at hr'
      have h0 : (122 : Int) = 0 := congrArg Ad.e hr'
      exact absurd h0 (by decide)
  · rw [if_neg hh] at hr
    have h0 : (121 : Int) = 0 := congrArg Ad.e hr
    exact absurd h0 (by decide)

theorem parse_secure (x : List UInt8) : parseA (httpsL ++ x) = restA true x := by
  have e1 : httpsL.isPrefixOf (httpsL ++ x) = true := by simp [httpsL, List.isPrefixOf]
  unfold parseA
  rw [e1, if_pos rfl]
  rfl
theorem parse_plain (x : List UInt8) : parseA (httpL ++ x) = restA false x := by
  have e1 : httpsL.isPrefixOf (httpL ++ x) = false := by rfl
  have e2 : httpL.isPrefixOf (httpL ++ x) = true := by simp [httpL, List.isPrefixOf]
  unfold parseA
  rw [e1, if_neg (by decide), e2, if_pos rfl]
  rfl

theorem parse_scheme (sec : Bool) (x : List UInt8) : parseA ((if sec = true then httpsL else httpL) ++ x) = restA sec x := by
  cases sec
  · rw [if_neg (by decide)]; exact parse_plain x
  · rw [if_pos rfl]; exact parse_secure x

/-- Just the addresses that are read as they were have a text. -/
theorem text_iff (sec : Bool) (h p : List UInt8) : (hostB (h.map lowC) = true ∧ h.map lowC = h ∧ rightB p = true ∧ p.any asksC = false) ↔ restA sec (h ++ p) = ⟨0, sec, h, p⟩ := by
  constructor
  · intro hc
    have := parse_text sec h p _ (by unfold textA; rw [if_pos hc])
    rw [List.append_assoc, parse_scheme] at this
    exact this
  · exact restA_is sec h p
end Go.Proofs.YtkpdejnhjbojpaaDoor
