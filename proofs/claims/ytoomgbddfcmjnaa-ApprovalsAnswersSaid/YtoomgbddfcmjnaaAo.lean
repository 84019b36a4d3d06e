/- Approvals: the example of the chapter. -/
import Derived.Test.YtoomgbddfcmjnaaAl
namespace Go.Proofs.Ytoomgbddfcmjnaa
open Go.RowKit
def Ap.ex (u : Int) : Ap := ⟨⟨#[112]⟩, ⟨#[97, 110, 110]⟩, 5, u⟩
theorem Ap.ex_add : Ap.add [] (Ap.ex 10) = ([Ap.ex 10], 0) := by
  have h : Ap.one (Ap.ex 10) = 0 := by decide +kernel
  unfold Ap.add
  rw [if_neg (by simpa using Ap.chk_ok.2 Ap.nil_ok), if_neg (by simpa using h), if_neg (by simp [Ap.meets]), if_neg (by simp)]
  rfl
theorem Ap.ex_chk : Ap.chk [Ap.ex 10] = 0 := by decide +kernel
theorem Ap.ex_nine : Ap.act [Ap.ex 10] ⟨#[112]⟩ 9 = some (Ap.ex 10) := by
  unfold Ap.act
  rw [if_neg (by simpa using Ap.ex_chk), List.find?_cons, show Ap.has (Ap.ex 10) ⟨#[112]⟩ 9 = true by decide +kernel]
theorem Ap.ex_ten : Ap.act [Ap.ex 10] ⟨#[112]⟩ 10 = none := by
  unfold Ap.act
  rw [if_neg (by simpa using Ap.ex_chk), List.find?_cons, show Ap.has (Ap.ex 10) ⟨#[112]⟩ 10 = false by decide +kernel]
  rfl
theorem Ap.ex_fin : Ap.fin [Ap.ex 10] ⟨#[112]⟩ 7 = ([Ap.ex 7], 0) := by
  have h : Ap.has (Ap.ex 10) ⟨#[112]⟩ 7 = true := by decide +kernel
  unfold Ap.fin
  rw [if_neg (by simpa using Ap.ex_chk), if_neg (by rw [List.find?_cons, h]; simp), List.findIdx_cons, h]
  rfl
set_option maxHeartbeats 800000 in
set_option maxRecDepth 100000 in
theorem awake39 (w : World) : Calls Try.prog 45 #[] w fun e w' => e = .returned (.bool true) ∧ Below w.heap.size w w' := by
  go_enter Try.func45, Try.ntmps45
  go_wp2_with fail
  refine (add39 none 0 0 [] ⟨#[112]⟩ ⟨#[97, 110, 110]⟩ 5 10 w (RRow.nil _ _)).mono ?_; rintro e w1 ⟨A, n, c, rfl, hr, hb⟩
  rw [show (⟨⟨#[112]⟩, ⟨#[97, 110, 110]⟩, 5, 10⟩ : Ap) = Ap.ex 10 from rfl, Ap.ex_add] at hr ⊢
  have HR := Lib.hid hr
  have HB := Lib.hid hb
  clear hr hb
  go_wp2_with fail
  refine (active39 A n c _ ⟨#[112]⟩ 9 w1 HR.out).mono ?_; rintro e w2 ⟨rfl, hb⟩
  rw [Ap.ex_nine]
  have HR2 := Lib.hid (HR.out.keep hb hb.size)
  have HB2 := Lib.hid (HB.out.trans (hb.mono HB.out.size))
  clear hb HR HB
  simp only [actV, apV, Ap.ex] at *
  obtain ⟨X2, hX2, HX2⟩ := ap_boxB w2 ⟨#[112]⟩ ⟨#[97, 110, 110]⟩ 5 10
  have HR2 := Lib.hid (HR2.out.keep HX2.out.1 HX2.out.1.size)
  have HB2 := Lib.hid (HB2.out.trans (HX2.out.1.mono HB2.out.size))
  go_wp2_with fail
  refine (active39 A n c _ ⟨#[112]⟩ 10 X2 HR2.out).mono ?_; rintro e w3 ⟨rfl, hb⟩
  rw [show Ap.act [⟨⟨#[112]⟩, ⟨#[97, 110, 110]⟩, 5, 10⟩] ⟨#[112]⟩ 10 = none from Ap.ex_ten]
  have HR3 := Lib.hid (HR2.out.keep hb hb.size)
  have HB3 := Lib.hid (HB2.out.trans (hb.mono HB2.out.size))
  clear hb HR2 HB2 HX2 hX2
  simp only [actV, apV, Ap0] at *
  obtain ⟨X3, hX3, HX3⟩ := ap_boxB w3 ⟨#[]⟩ ⟨#[]⟩ 0 0
  have HR3 := Lib.hid (HR3.out.keep HX3.out.1 HX3.out.1.size)
  have HB3 := Lib.hid (HB3.out.trans (HX3.out.1.mono HB3.out.size))
  have HE3 := Lib.hid hX3
  clear hX3
  go_wp2_with fail
  rw [HE3.out]
  refine (end39 A n c _ ⟨#[112]⟩ 7 X3 HR3.out).mono ?_; rintro e w4 ⟨A4, n4, c4, rfl, hr4, hb⟩
  rw [show Ap.fin [⟨⟨#[112]⟩, ⟨#[97, 110, 110]⟩, 5, 10⟩] ⟨#[112]⟩ 7 = ([Ap.ex 7], 0) from Ap.ex_fin] at hr4 ⊢
  obtain rfl : n4 = 1 := by have := hr4.len; simp at this; omega
  obtain ⟨ad, p, r, f, u, rfl, HX, h0, h1, h2, h3⟩ := hr4.ap (show 0 < 1 by omega)
  obtain ⟨rfl, rfl, rfl, rfl⟩ : (⟨#[112]⟩ : ByteArray) = p ∧ (⟨#[97, 110, 110]⟩ : ByteArray) = r ∧ 5 = f ∧ 7 = u := by
    have := HX.out.1
    simp [Ap.ex] at this
    exact this
  have HB4 := Lib.hid (HB3.out.trans (hb.mono HB3.out.size))
  clear hb HR3 HB3 hr4
  rw [show ad.add (0 * 4) = ad by simp [Addr.add]] at h0 h1 h2 h3
  go_wp2_with fail
  go_ret
  exact ⟨rfl, HB4.out⟩
end Go.Proofs.Ytoomgbddfcmjnaa
