/-
  A walk of json's blanks: ok.
-/
import Derived.Test.YtmnigdcgdebgoaaDoorJsF
import Derived.Test.YtmnigdcgdebgoaaDoorJsH
namespace Go.Proofs.YtmnigdcgdebgoaaDoor
open Go.RowKit
set_option linter.unusedVariables false

set_option maxRecDepth 100000 in
set_option maxHeartbeats 3200000 in
theorem blanks_ok (a0 : ByteArray) (n1 n2 : Nat) (w : World) (HT : Hid (Tabs w)) (h0 : ¬ 500 < a0.size) (q1 : n1 ≤ 9) (q2 : n2 ≤ 9) (A B : ByteArray) (HA : Hid ((⟨#[32, 9, 10, 13, 13, 10, 9, 32, 32]⟩ : ByteArray).extract 0 n1 = A)) (HBB : Hid ((⟨#[32, 9, 10, 13, 13, 10, 9, 32, 32]⟩ : ByteArray).extract 0 n2 = B)) (zA : A.size ≤ 9) (zB : B.size ≤ 9) (l3 n : List It) (HLZ : Hid (l3.length ≤ 100000)) (HP : Hid (parseL readD a0.data.toList = (0, l3))) (HP2 : Hid (parseL readD (A ++ a0).data.toList = (0, l3))) (HP3 : Hid (parseL readD (A ++ a0 ++ B).data.toList = (0, l3))) (HP4 : Hid (parseL readD ((⟨#[91]⟩ : ByteArray) ++ A ++ a0 ++ B ++ ⟨#[93]⟩).data.toList = (0, n))) (HSM : Hid (Small l3)) (HSN : Hid (Small n)) (P Q : ByteArray) (zP : P.size ≤ 1000000) (HPP : Hid (bytesOf (printU l3) = P)) (HPZ : Hid ((printU l3).length ≤ 100000000000)) (HQ : Hid (bytesOf (printU n) = Q)) (HQZ : Hid ((printU n).length ≤ 100000000000)) (hQP : Q = (⟨#[91]⟩ : ByteArray) ++ P ++ ⟨#[93]⟩) (hlen : n.length = l3.length + 1) :
    Calls Tryd.prog 7 #[.string a0, .int .i64 (n1 : Int), .int .i64 (n2 : Int)] w fun e w' => e = .returned (.bool true) ∧ Below w.heap.size w w' := by
  have z0 : ¬ (500 : Int) < (a0.size : Int) := by omega
  have q3 : (0 : Int) ≤ (n1 : Int) := by omega
  have q4 : (0 : Int) ≤ (n2 : Int) := by omega
  have q5 : (n1 : Int) ≤ 9 := by omega
  have q6 : (n2 : Int) ≤ 9 := by omega
  have y1 : A.size + a0.size ≤ 9223372036854775807 := by omega
  have y2 : A.size + a0.size + B.size ≤ 9223372036854775807 := by omega
  have y3 : 1 + A.size ≤ 9223372036854775807 := by omega
  have y4 : 1 + A.size + a0.size ≤ 9223372036854775807 := by omega
  have y5 : 1 + A.size + a0.size + B.size ≤ 9223372036854775807 := by omega
  have y6 : 1 + A.size + a0.size + B.size + 1 ≤ 9223372036854775807 := by omega
  have x91 : (⟨#[91]⟩ : ByteArray).size = 1 := rfl
  have x93 : (⟨#[93]⟩ : ByteArray).size = 1 := rfl
  have v1 : (A ++ a0).size ≤ 1000000 := by rw [ByteArray.size_append]; omega
  have v2 : (A ++ a0 ++ B).size ≤ 1000000 := by rw [ByteArray.size_append, ByteArray.size_append]; omega
  have v3 : ((⟨#[91]⟩ : ByteArray) ++ A ++ a0 ++ B ++ ⟨#[93]⟩).size ≤ 1000000 := by
    rw [ByteArray.size_append, ByteArray.size_append, ByteArray.size_append, ByteArray.size_append]; omega
  obtain ⟨T4, hT4⟩ : ∃ t, (⟨#[91]⟩ : ByteArray) ++ A ++ a0 ++ B ++ ⟨#[93]⟩ = t := ⟨_, rfl⟩
  have hp4 := HP4.out
  rw [hT4] at hp4 v3
  have HQ4 := Lib.hid hp4
  have HT4' := Lib.hid hT4
  have HV := Lib.hid (And.intro v1 (And.intro v2 v3))
  clear v1 v2 v3 hp4 hT4 HP4
  obtain ⟨ln, hn⟩ : ∃ k, l3.length = k := ⟨_, rfl⟩
  have hnn : n.length = ln + 1 := by rw [hlen, hn]
  have heq : (Q.toList == ((⟨#[91]⟩ : ByteArray) ++ P ++ ⟨#[93]⟩).toList) = true := by rw [hQP]; simp
  have p1 : 1 + P.size ≤ 9223372036854775807 := by omega
  have p2 : 1 + P.size + 1 ≤ 9223372036854775807 := by omega
  have c1 : ((ln + 1 : Nat) : Int) = (ln : Int) + 1 := by omega
  have c2 : ¬ (ln : Int) + 1 = 0 := by omega
  have c3 : (((ln : Int) + 1) == 0) = false := by rw [beq_eq_false_iff_ne]; exact c2
  have c4 : ln ≤ 100000 := by rw [← hn]; exact HLZ.out
  clear hQP hlen
  go_enter Tryd.func7, Tryd.ntmps7
  go_wp2_with fail
  refine wp_region_below (g := w.heap.size) (w0 := w) (by kernel_rfl) (by kernel_rfl) (Below.refl _ _) (fun hex => ?_)
  repeat (go_big_quiet_step (first | (intro _; rfl)))
  refine wpQuiet_nil ?_
  intro w01 hb01
  have HT0 := Lib.hid (HT.out.keep hb01)
  have HB0 := Lib.hid hb01
  clear hb01
  rw [HA.out, HBB.out]
  go_wp2_with fail
  refine (at_parse a0 0 l3 _ HT0.out (by omega) HP.out).mono ?_
  rintro _ w1 ⟨ao1, cap1, rfl, hI1, hb1⟩
  rw [hn] at hI1 ⊢
  have HI1 := Lib.hid hI1
  have HT1 := Lib.hid (HT0.out.keep hb1)
  have HB1 := Lib.hid (chain HB0.out hb1)
  clear hI1 hb1 HT0 HB0
  go_wp2_with fail
  refine (at_parse (A ++ a0) 0 l3 _ HT1.out HV.out.1 HP2.out).mono ?_
  rintro _ w2 ⟨ao2, cap2, rfl, hI2, hb2⟩
  rw [hn] at hI2 ⊢
  have HK2 := Lib.hid hI2
  have HI2 := Lib.hid (HI1.out.keep hb2)
  have HT2 := Lib.hid (HT1.out.keep hb2)
  have HB2 := Lib.hid (chain HB1.out hb2)
  clear hI2 hb2 HI1 HT1 HB1
  go_wp2_with fail
  refine (at_parse (A ++ a0 ++ B) 0 l3 _ HT2.out HV.out.2.1 HP3.out).mono ?_
  rintro _ w3 ⟨ao3, cap3, rfl, hI3, hb3⟩
  rw [hn] at hI3 ⊢
  have HM3 := Lib.hid hI3
  have HK3 := Lib.hid (HK2.out.keep hb3)
  have HI3 := Lib.hid (HI2.out.keep hb3)
  have HT3 := Lib.hid (HT2.out.keep hb3)
  have HB3 := Lib.hid (chain HB2.out hb3)
  clear hI3 hb3 HK2 HI2 HT2 HB2
  go_wp2_with fail
  rw [HT4'.out]
  refine (at_parse T4 0 n _ HT3.out HV.out.2.2 HQ4.out).mono ?_
  rintro _ w4 ⟨ao4, cap4, rfl, hI4, hb4⟩
  rw [hnn] at hI4 ⊢
  have HN4 := Lib.hid hI4
  have HM4 := Lib.hid (HM3.out.keep hb4)
  have HK4 := Lib.hid (HK3.out.keep hb4)
  have HI4 := Lib.hid (HI3.out.keep hb4)
  have HT4 := Lib.hid (HT3.out.keep hb4)
  have HB4 := Lib.hid (chain HB3.out hb4)
  clear hI4 hb4 HM3 HK3 HI3 HT3 HB3
  go_wp2_with fail
  refine (at_olds _ l3 _ HK4.out HLZ.out).mono ?_
  rintro _ w5 ⟨ao5, cap5, rfl, hI5, hb5⟩
  rw [hn] at hI5 ⊢
  have HX5 := Lib.hid hI5
  have HN5 := Lib.hid (HN4.out.keep hb5)
  have HM5 := Lib.hid (HM4.out.keep hb5)
  have HK5 := Lib.hid (HK4.out.keep hb5)
  have HI5 := Lib.hid (HI4.out.keep hb5)
  have HT5 := Lib.hid (HT4.out.keep hb5)
  have HB5 := Lib.hid (chain HB4.out hb5)
  clear hI5 hb5 HN4 HM4 HK4 HI4 HT4 HB4
  go_wp2_with fail
  refine (at_olds _ l3 _ HI5.out HLZ.out).mono ?_
  rintro _ w6 ⟨ao6, cap6, rfl, hI6, hb6⟩
  rw [hn] at hI6 ⊢
  have HY6 := Lib.hid hI6
  have HN6 := Lib.hid (HN5.out.keep hb6)
  have HM6 := Lib.hid (HM5.out.keep hb6)
  have HK6 := Lib.hid (HK5.out.keep hb6)
  have HI6 := Lib.hid (HI5.out.keep hb6)
  have HX6 := Lib.hid (HX5.out.keep hb6)
  have HT6 := Lib.hid (HT5.out.keep hb6)
  have HB6 := Lib.hid (chain HB5.out hb6)
  clear hI6 hb6 HN5 HM5 HK5 HI5 HX5 HT5 HB5
  go_wp2_with fail
  refine (at_same _ _ l3 l3 true _ HX6.out HY6.out HLZ.out HLZ.out (by simp)).mono ?_
  rintro _ w7 ⟨rfl, hb7⟩
  have HN7 := Lib.hid (HN6.out.keep hb7)
  have HM7 := Lib.hid (HM6.out.keep hb7)
  have HK7 := Lib.hid (HK6.out.keep hb7)
  have HI7 := Lib.hid (HI6.out.keep hb7)
  have HT7 := Lib.hid (HT6.out.keep hb7)
  have HB7 := Lib.hid (chain HB6.out hb7)
  clear hb7 HN6 HM6 HK6 HI6 HX6 HY6 HT6 HB6
  go_wp2_with fail
  refine (at_olds _ l3 _ HM7.out HLZ.out).mono ?_
  rintro _ w8 ⟨ao8, cap8, rfl, hI8, hb8⟩
  rw [hn] at hI8 ⊢
  have HX8 := Lib.hid hI8
  have HN8 := Lib.hid (HN7.out.keep hb8)
  have HM8 := Lib.hid (HM7.out.keep hb8)
  have HK8 := Lib.hid (HK7.out.keep hb8)
  have HI8 := Lib.hid (HI7.out.keep hb8)
  have HT8 := Lib.hid (HT7.out.keep hb8)
  have HB8 := Lib.hid (chain HB7.out hb8)
  clear hI8 hb8 HN7 HM7 HK7 HI7 HT7 HB7
  go_wp2_with fail
  refine (at_olds _ l3 _ HI8.out HLZ.out).mono ?_
  rintro _ w9 ⟨ao9, cap9, rfl, hI9, hb9⟩
  rw [hn] at hI9 ⊢
  have HY9 := Lib.hid hI9
  have HN9 := Lib.hid (HN8.out.keep hb9)
  have HM9 := Lib.hid (HM8.out.keep hb9)
  have HK9 := Lib.hid (HK8.out.keep hb9)
  have HI9 := Lib.hid (HI8.out.keep hb9)
  have HX9 := Lib.hid (HX8.out.keep hb9)
  have HT9 := Lib.hid (HT8.out.keep hb9)
  have HB9 := Lib.hid (chain HB8.out hb9)
  clear hI9 hb9 HN8 HM8 HK8 HI8 HX8 HT8 HB8
  go_wp2_with fail
  refine (at_same _ _ l3 l3 true _ HX9.out HY9.out HLZ.out HLZ.out (by simp)).mono ?_
  rintro _ w10 ⟨rfl, hb10⟩
  have HN10 := Lib.hid (HN9.out.keep hb10)
  have HM10 := Lib.hid (HM9.out.keep hb10)
  have HK10 := Lib.hid (HK9.out.keep hb10)
  have HI10 := Lib.hid (HI9.out.keep hb10)
  have HT10 := Lib.hid (HT9.out.keep hb10)
  have HB10 := Lib.hid (chain HB9.out hb10)
  clear hb10 HN9 HM9 HK9 HI9 HX9 HY9 HT9 HB9
  go_wp2_with fail
  refine (alive8_any _ HT10.out).mono ?_
  rintro _ w11 ⟨rfl, hb11⟩
  have HN11 := Lib.hid (HN10.out.keep hb11)
  have HM11 := Lib.hid (HM10.out.keep hb11)
  have HK11 := Lib.hid (HK10.out.keep hb11)
  have HI11 := Lib.hid (HI10.out.keep hb11)
  have HT11 := Lib.hid (HT10.out.keep hb11)
  have HB11 := Lib.hid (chain HB10.out hb11)
  clear hb11 HN10 HM10 HK10 HI10 HT10 HB10
  go_wp2_with fail
  refine (jprint_any _ n _ HT11.out HN11.out HSN.out Q HQ.out HQZ.out).mono ?_
  rintro _ w12 ⟨rfl, hb12⟩
  have HI12 := Lib.hid (HI11.out.keep hb12)
  have HT12 := Lib.hid (HT11.out.keep hb12)
  have HB12 := Lib.hid (chain HB11.out hb12)
  clear hb12
  go_wp2_with fail
  refine (jprint_any _ l3 _ HT12.out HI12.out HSM.out P HPP.out HPZ.out).mono ?_
  rintro _ w13 ⟨rfl, hb13⟩
  have HB13 := Lib.hid (chain HB12.out hb13)
  clear hb13
  have hb9 := HB13.out
  go_wp2
  go_ret
  exact ⟨rfl, hb9⟩
end Go.Proofs.YtmnigdcgdebgoaaDoor
