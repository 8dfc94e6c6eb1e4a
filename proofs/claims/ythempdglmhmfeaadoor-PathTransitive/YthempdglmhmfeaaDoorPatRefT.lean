/-
  The document's own answers (package cracknelref12): Text: a contract.
-/
import Derived.Test.YthempdglmhmfeaaDoorPatVal
import Derived.Test.YthempdglmhmfeaaDoorPatRight
import Derived.Test.YthempdglmhmfeaaDoorPatAsks
import Derived.Test.YthempdglmhmfeaaDoorHosRefC
namespace Go.Proofs.YthempdglmhmfeaaDoor
open Go.RowKit
set_option linter.unusedVariables false


/-- What Text answers. -/
def txtV (s : Bool) (h p : ByteArray) : Value :=
  match textA s h.data.toList p.data.toList with
  | some t => .tuple #[.string ⟨t.toArray⟩, .bool true]
  | none => .tuple #[.string ByteArray.empty, .bool false]

theorem txtV_no (s : Bool) (h p : ByteArray) (hn : ¬ (hostB (h.data.toList.map lowC) = true ∧ h.data.toList.map lowC = h.data.toList ∧ rightB p.data.toList = true ∧ p.data.toList.any asksC = false)) :
    txtV s h p = .tuple #[.string ByteArray.empty, .bool false] := by
  unfold txtV textA
  rw [if_neg hn]

theorem txtV_yes (s : Bool) (h p : ByteArray) (hy : hostB (h.data.toList.map lowC) = true ∧ h.data.toList.map lowC = h.data.toList ∧ rightB p.data.toList = true ∧ p.data.toList.any asksC = false) :
    txtV s h p = .tuple #[.string ((if s = true then (⟨#[104, 116, 116, 112, 115, 58, 47, 47]⟩ : ByteArray) else ⟨#[104, 116, 116, 112, 58, 47, 47]⟩) ++ h ++ p), .bool true] := by
  have e : (⟨((if s = true then httpsL else httpL) ++ h.data.toList ++ p.data.toList).toArray⟩ : ByteArray) = (if s = true then (⟨#[104, 116, 116, 112, 115, 58, 47, 47]⟩ : ByteArray) else ⟨#[104, 116, 116, 112, 58, 47, 47]⟩) ++ h ++ p := by
    apply ba_ext
    cases s
    · rw [if_neg (by decide), if_neg (by decide), app_list, app_list]; rfl
    · rw [if_pos rfl, if_pos rfl, app_list, app_list]; rfl
  rw [← e]
  unfold txtV textA
  rw [if_pos hy]

theorem any_step (l : List UInt8) (p : UInt8 → Bool) (k : Nat) (h : k < l.length) (h1 : (l.take k).any p = false) (h2 : p l[k] = false) : (l.take (k + 1)).any p = false := by
  rw [List.take_succ_eq_append_getElem h, List.any_append, h1]
  simp [h2]
theorem any_hit (l : List UInt8) (p : UInt8 → Bool) (k : Nat) (h : k < l.length) (h2 : p l[k] = true) : ¬ l.any p = false := by
  rw [Bool.not_eq_false, List.any_eq_true]
  exact ⟨_, List.getElem_mem h, h2⟩

def TxtAt (p : ByteArray) (w0 : World) (gk : Nat) (i : Value) (wr : World) : Prop :=
  ∃ k : Nat, i = .int .i64 (k : Int) ∧ k + gk = p.size + 1 ∧ 1 ≤ gk ∧ (p.data.toList.take k).any asksC = false ∧ wr = w0

theorem cell_keepU {w w' : World} {p : Addr} {v : Value} (h : w.cell? p = some v) (hb : Below w.heap.size w w') : w'.cell? p = some v := by
  rw [hb.cell (World.block_lt_of_cell? w p h)]; exact h

set_option maxRecDepth 100000 in
set_option maxHeartbeats 3200000 in
theorem rtext_any (s : Bool) (h p : ByteArray) (w : World) (hh : h.size ≤ 1000000) (hp : p.size ≤ 1000000) :
    Calls Tryd.prog 19 #[urlV s h p] w fun e w' => e = .returned (txtV s h p) ∧ Below w.heap.size w w' := by
  have HC := Lib.hid (rcanon_any h · (by omega))
  have HR := Lib.hid (rright_any p · (by unfold maxLen; omega))
  have hcell0 : (w.alloc (.cells #[.bool s, .string h, .string p] 32)).cell? ⟨w.heap.size, 0, none⟩ = some (.bool s) := by simp
  have hcell1 : (w.alloc (.cells #[.bool s, .string h, .string p] 32)).cell? ⟨w.heap.size, 1, none⟩ = some (.string h) := by simp
  have hcell2 : (w.alloc (.cells #[.bool s, .string h, .string p] 32)).cell? ⟨w.heap.size, 2, none⟩ = some (.string p) := by simp
  have hb0 := (Below.refl w.heap.size w).alloc (Nat.le_refl _) (.cells #[.bool s, .string h, .string p] 32)
  go_enter Tryd.func19, Tryd.ntmps19
  go_wp2_with fail
  refine (HC.out _).mono ?_
  rintro _ w1 ⟨rfl, hb⟩
  have hb1 := chain hb0 hb
  replace hcell0 := cell_keepU hcell0 hb
  replace hcell1 := cell_keepU hcell1 hb
  replace hcell2 := cell_keepU hcell2 hb
  clear hb hb0 HC
  by_cases h1 : hostB (lowB h).data.toList = true
  · have HV := Lib.hid (canV_yes _ h1)
    rw [HV.out]
    clear HV
    by_cases h2 : lowB h = h
    · rw [h2]
      have hq : (h.toList == h.toList) = true := by simp
      have H1 : Hid (hostB (h.data.toList.map lowC) = true ∧ h.data.toList.map lowC = h.data.toList) := ⟨h1, by have := congrArg (fun b : ByteArray => b.data.toList) h2; exact this⟩
      clear h1 h2
      obtain ⟨b, hb⟩ : ∃ b, b = rightB p.data.toList := ⟨_, rfl⟩
      rw [← hb] at HR
      have HB := Lib.hid hb
      clear hb
      cases b
      · have HV := Lib.hid (txtV_no s h p (fun e => by rw [← HB.out] at e; cases e.2.2.1))
        go_wp2_with fail
        refine (HR.out _).mono ?_
        rintro _ w2 ⟨rfl, hb⟩
        have hb2 := chain hb1 hb
        clear hb hb1
        go_wp2
        go_ret2
        exact ⟨congrArg Ending.returned HV.out.symm, hb2⟩
      · go_wp2_with fail
        refine (HR.out _).mono ?_
        rintro _ w2 ⟨rfl, hb⟩
        have hb2 := chain hb1 hb
        replace hcell0 := cell_keepU hcell0 hb
        replace hcell1 := cell_keepU hcell1 hb
        replace hcell2 := cell_keepU hcell2 hb
        clear hb hb1
        go_wp2_with fail
        go_loopg [6] (p.size + 1) (fun gk i wr => TxtAt p w2 gk i wr)
        case atStart => exact ⟨0, rfl, by omega, by omega, rfl, rfl⟩
        case round =>
          obtain ⟨k, rfl, hk, hg, hall, rfl⟩ := hrel
          have HA := Lib.hid hall
          clear hall
          by_cases hlt : k < p.size
          · have hkl : k < p.data.toList.length := by rw [list_len]; exact hlt
            have HG := Lib.hid (bget p k hlt)
            have HK := Lib.hid (rasks_any p[k])
            obtain ⟨q, hqq⟩ : ∃ q, q = asksC p[k] := ⟨_, rfl⟩
            rw [← hqq] at HK
            have HQ := Lib.hid hqq
            clear hqq
            have hki : (k : Int) < (p.size : Int) := by omega
            cases q
            · have HS := Lib.hid (any_step _ asksC k hkl HA.out (by rw [HG.out]; exact HQ.out.symm))
              go_wp2_with fail
              refine (HK.out _).mono ?_
              rintro _ wz ⟨rfl, rfl⟩
              go_wp2
              go_roundg (gk - 1)
              case measure => omega
              case rel => exact ⟨k + 1, by go_num, by omega, by omega, HS.out, rfl⟩
            · have HV := Lib.hid (txtV_no s h p (fun e => any_hit _ asksC k hkl (by rw [HG.out]; exact HQ.out.symm) e.2.2.2))
              go_wp2_with fail
              refine (HK.out _).mono ?_
              rintro _ wz ⟨rfl, rfl⟩
              go_wp2
              go_ret2
              exact ⟨congrArg Ending.returned HV.out.symm, hb2⟩
          · have hki : ¬ (k : Int) < (p.size : Int) := by omega
            have HY := Lib.hid (txtV_yes s h p ⟨H1.out.1, H1.out.2, HB.out.symm, by
              have := HA.out
              rw [List.take_of_length_le (by rw [list_len]; omega)] at this
              exact this⟩)
            cases s
            · go_wp2
              go_ret2
              exact ⟨congrArg Ending.returned HY.out.symm, hb2⟩
            · go_wp2
              go_ret2
              exact ⟨congrArg Ending.returned HY.out.symm, hb2⟩
    · have hq : ((lowB h).toList == h.toList) = false := by rw [eq_toList]; simpa using h2
      have hq2 : ¬ (lowB h).toList = h.toList := fun e => by rw [e] at hq; simp at hq
      have HV := Lib.hid (txtV_no s h p (fun e => h2 (ba_ext e.2.1)))
      clear h1 h2
      generalize lowB h = T at *
      go_wp2
      go_ret2
      exact ⟨congrArg Ending.returned HV.out.symm, hb1⟩
  · have HV := Lib.hid (txtV_no s h p (fun e => h1 e.1))
    have HN := Lib.hid (canV_no (lowB h) (by simpa using h1))
    rw [HN.out]
    clear h1 HN
    go_wp2
    go_ret2
    exact ⟨congrArg Ending.returned HV.out.symm, hb1⟩
end Go.Proofs.YthempdglmhmfeaaDoor
