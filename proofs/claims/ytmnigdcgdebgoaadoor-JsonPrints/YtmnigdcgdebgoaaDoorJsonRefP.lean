/-
  The document's own Print of a row.
-/
import Derived.Test.YtmnigdcgdebgoaaDoorJsonRefT
import Derived.Test.YtmnigdcgdebgoaaDoorJsonLaws
namespace Go.Proofs.YtmnigdcgdebgoaaDoor
open Go.RowKit
set_option linter.unusedVariables false

set_option maxRecDepth 100000 in
set_option maxHeartbeats 800000 in
theorem rprint8_any (v : Value) (l : List It) (w : World) (h : ItsAt w v l) (hsm : Small l) (hin : IntsU l) (hw : wt l ≤ 1100) (P : ByteArray) (hP : bytesOf (printU l) = P) :
    Calls Tryd.prog 19 #[v] w fun e w' => e = .returned (.string P) ∧ Below w.heap.size w w' := by
  cases hR : rightU l with
  | false =>
    have hPe : P = ByteArray.empty := by
      rw [← hP]
      unfold printU
      rw [hR]
      rfl
    subst hPe
    have HR := Lib.hid hR
    have HI := Lib.hid h
    have HS := Lib.hid hsm
    clear hR h hsm hP
    go_enter Tryd.func19, Tryd.ntmps19
    go_wp2_with fail
    refine (rright_any v l _ HI.out HS.out false HR.out).mono ?_
    rintro _ w1 ⟨rfl, hb1⟩
    go_wp2
    go_ret
    exact ⟨rfl, hb1⟩
  | true =>
    have hlen : 0 < l.length := by
      cases l with
      | nil => cases hR
      | cons x t => simp
    obtain ⟨ad, cap, rfl, hcap, hc⟩ : ∃ ad cap, v = .slice (some ad) l.length cap ∧ l.length ≤ cap ∧ CellsR w ad l := by
      rcases h with ⟨_, e⟩ | ⟨ad, cap, e, h1, h2⟩
      · rw [e] at hlen
        exact absurd hlen (by decide)
      · exact ⟨ad, cap, e, h1, h2⟩
    obtain ⟨j, hj, hl⟩ := right_tree l hR hin
    have htl := j.text_len 0 [] hj
    rw [← hl] at htl
    have hpj : printU l = j.text printL := by rw [hl]; exact j.printed hj
    rw [hpj] at hP
    obtain ⟨n, hn⟩ : ∃ n, l.length = n := ⟨_, rfl⟩
    have hz : n ≤ 100000 := by rw [← hn]; exact hsm.1
    have hHT : ∀ W : World, CellsR W ad l → Calls Tryd.prog 39 #[.slice (some ad) n cap, .int .i64 ((0 : Nat) : Int)] W fun e w' => e = .returned (.string P) ∧ Below W.heap.size W w' := fun W hcW => by
      rw [← hP]
      exact rtext_any l ad cap n hn hz hsm j.size j 0 [] 0 [] W (Nat.le_refl _) hj (by rw [List.append_nil]; exact hl) (fun x r e => by cases e) (by omega) hcW
    have hsh : Hid (ItsAt w (.slice (some ad) n cap) l) := .inr ⟨ad, cap, by rw [hn], hcap, hc⟩
    rw [hn]
    have HT := Lib.hid hHT
    have HR := Lib.hid hR
    have HC := Lib.hid hc
    have HS := Lib.hid hsm
    clear hR h hsm hP hHT hc hl htl hpj hn
    go_enter Tryd.func19, Tryd.ntmps19
    go_wp2_with fail
    refine (rright_any _ l _ hsh.out HS.out true HR.out).mono ?_
    rintro _ w1 ⟨rfl, hb1⟩
    have HC1 := Lib.hid (HC.out.keep hb1)
    have HB1 := Lib.hid hb1
    clear hb1
    go_wp2_with fail
    refine (HT.out _ HC1.out).mono ?_
    rintro _ w2 ⟨rfl, hb2⟩
    have hb := chain HB1.out hb2
    go_wp2
    go_ret
    exact ⟨rfl, hb⟩
end Go.Proofs.YtmnigdcgdebgoaaDoor
