/- Codes: names of words. -/
import Derived.Test.YtdlgfhegafnmcaaLq
namespace Go.Proofs.Ytdlgfhegafnmcaa
open Go.RowKit
def Cd.wl : List ByteArray := [⟨#[97, 108, 108]⟩, ⟨#[97, 110, 100]⟩, ⟨#[101, 118, 101, 110, 116]⟩, ⟨#[102, 114, 111, 109]⟩, ⟨#[109, 105, 115, 115, 105, 110, 103]⟩, ⟨#[110, 111, 116]⟩, ⟨#[111, 110]⟩, ⟨#[111, 114]⟩, ⟨#[116, 111]⟩, ⟨#[117, 110, 100, 101, 114]⟩, ⟨#[119, 104, 101, 114, 101]⟩]
def Cd.rep (c : Int) (k : Nat) : ByteArray := ⟨(List.replicate k (UInt8.ofNat (97 + c).toNat)).toArray⟩
theorem Cd.enc {c : Int} (h : 0 ≤ c ∧ c < 26) : Utf8.encode (97 + c) = ⟨#[UInt8.ofNat (97 + c).toNat]⟩ := by
  have hv : Utf8.valid (97 + c) = true := by unfold Utf8.valid; simp; omega
  unfold Utf8.encode
  rw [hv]
  simp only [if_true]
  rw [if_pos (by omega)]
theorem Cd.rep_size (c : Int) (k : Nat) : (Cd.rep c k).size = k := by simp [Cd.rep, ByteArray.size]
theorem Cd.rep_succ {c : Int} (h : 0 ≤ c ∧ c < 26) (k : Nat) : Cd.rep c k ++ Utf8.encode (97 + c) = Cd.rep c (k + 1) := by
  rw [Cd.enc h]
  apply ByteArray.ext
  apply Array.ext'
  simp [Cd.rep, ByteArray.data_append, List.replicate_succ']
theorem Cd.wl_cell {w : World} {g : Nat} {t : TypeId} {fr : Nat × Nat} (h : w.heap[g]? = some (.cells (Cd.wl.map Value.string).toArray t fr)) {k : Nat} (hk : k < 11) : w.cell? ⟨g, k, none⟩ = some (.string (Cd.wl.getD k ⟨#[]⟩)) := by
  have hl : Cd.wl.length = 11 := rfl
  simp [World.cell?, h, List.getD, hl, hk]
theorem Cd.wl_names : Cd.wl.all (fun w => !Cd.nameL w.data.toList && Cd.nameL (w ++ ⟨#[120]⟩).data.toList && Cd.nameL (w ++ ⟨#[95, 57]⟩).data.toList && !Cd.nameL ((⟨#[95]⟩ : ByteArray) ++ w).data.toList && !Cd.nameL ((⟨#[57]⟩ : ByteArray) ++ w).data.toList && !Cd.nameL (w ++ ⟨#[32]⟩).data.toList && decide (w.size ≤ 7)) = true := by decide
theorem Cd.wl_name {q : Nat} (h : q < 11) {s : ByteArray} (hs : Cd.wl.getD q ⟨#[]⟩ = s) : (Cd.name s = false ∧ Cd.name (s ++ ⟨#[120]⟩) = true ∧ Cd.name (s ++ ⟨#[95, 57]⟩) = true ∧ Cd.name ((⟨#[95]⟩ : ByteArray) ++ s) = false ∧ Cd.name ((⟨#[57]⟩ : ByteArray) ++ s) = false ∧ Cd.name (s ++ ⟨#[32]⟩) = false) ∧ s.size ≤ 7 := by
  have hm : s ∈ Cd.wl := by
    rw [← hs, List.getD_eq_getElem?_getD, List.getElem?_eq_getElem (by exact h)]; exact List.getElem_mem _
  have h1 := List.all_eq_true.1 Cd.wl_names s hm
  simp only [Bool.and_eq_true, Bool.not_eq_true', decide_eq_true_eq] at h1
  obtain ⟨⟨⟨⟨⟨⟨h1, h2⟩, h3⟩, h4⟩, h5⟩, h6⟩, h7⟩ := h1
  simp only [Cd.name_L]
  exact ⟨⟨h1, h2, h3, h4, h5, h6⟩, h7⟩
theorem Cd.rep_all : (List.range 26).all (fun c => (List.range 20).all fun m => Cd.nameL (List.replicate m (UInt8.ofNat (97 + c))) == (Cd.wl.all (fun x => !(x.data.toList == List.replicate m (UInt8.ofNat (97 + c)))) && decide (1 ≤ (m : Int)) && decide ((m : Int) ≤ 16))) = true := by decide +kernel
theorem Cd.rep_name {c : Int} (hc : 0 ≤ c ∧ c < 26) {m : Nat} (hm : m < 20) : Cd.name (Cd.rep c m) = (Cd.wl.all (fun x => !(x.toList == (Cd.rep c m).toList)) && decide (1 ≤ (m : Int)) && decide ((m : Int) ≤ 16)) := by
  obtain ⟨d, rfl⟩ : ∃ d : Nat, c = d := ⟨c.toNat, by omega⟩
  have h1 := List.all_eq_true.1 Cd.rep_all d (List.mem_range.2 (by omega))
  have h2 := List.all_eq_true.1 h1 m (List.mem_range.2 hm)
  have h3 := beq_iff_eq.1 h2
  have h4 : (Cd.rep (d : Int) m).data.toList = List.replicate m (UInt8.ofNat (97 + d)) := by
    unfold Cd.rep; rw [show (97 + (d : Int)).toNat = 97 + d by omega]
  rw [Cd.name_L]
  simp only [ByteArray.toList_eq]
  rw [h4]
  exact h3
theorem Cd.all_takeB (l : List ByteArray) {j : Nat} (h : j < l.length) (p : ByteArray → Bool) : (l.take (j + 1)).all p = ((l.take j).all p && p (l.getD j ⟨#[]⟩)) := by
  rw [List.take_add_one, List.all_append, List.getElem?_eq_getElem h]
  simp [List.getD, h]
set_option maxHeartbeats 1600000 in
set_option maxRecDepth 100000 in
theorem walkWords (W : World) (a : Int) (ha0 : 0 ≤ a) (ha1 : a ≤ 255) (b : Int) (hb0 : 0 ≤ b) (hb1 : b ≤ 255) (t : Int) (ht0 : 0 ≤ t) (ht1 : t ≤ 255) :
    Calls Try.prog 3 #[.int .u8 a, .int .u8 b, .int .u8 t] W fun e w => e = .returned (.bool true) ∧ Below W.heap.size W w := by
  obtain ⟨W1, hW1⟩ : ∃ W1 : World, W.alloc (.cells #[.string ⟨#[97, 108, 108]⟩, .string ⟨#[97, 110, 100]⟩, .string ⟨#[101, 118, 101, 110, 116]⟩, .string ⟨#[102, 114, 111, 109]⟩, .string ⟨#[109, 105, 115, 115, 105, 110, 103]⟩, .string ⟨#[110, 111, 116]⟩, .string ⟨#[111, 110]⟩, .string ⟨#[111, 114]⟩, .string ⟨#[116, 111]⟩, .string ⟨#[117, 110, 100, 101, 114]⟩, .string ⟨#[119, 104, 101, 114, 101]⟩] 9) = W1 := ⟨_, rfl⟩
  have hb1 : Below W.heap.size W W1 := by rw [← hW1]; exact (Below.refl _ _).alloc (Nat.le_refl _) _
  have hc : ∀ {k : Nat}, k < 11 → W1.cell? ⟨W.heap.size, k, none⟩ = some (.string (Cd.wl.getD k ⟨#[]⟩)) := fun hk => Cd.wl_cell (by rw [← hW1]; exact heap_alloc_new _ _) hk
  have HB := Lib.hid hb1
  have HC := Lib.hid (show ∀ k : Nat, k < 11 → W1.cell? ⟨W.heap.size, k, none⟩ = some (.string (Cd.wl.getD k ⟨#[]⟩)) from fun k hk => hc hk)
  obtain ⟨q, hq, hqv⟩ : ∃ q : Nat, a % 11 = q ∧ q < 11 := ⟨(a % 11).toNat, by omega, by omega⟩
  have hcq := hc hqv
  have HQ := Lib.hid hqv
  obtain ⟨s, hs⟩ : ∃ s, Cd.wl.getD q ⟨#[]⟩ = s := ⟨_, rfl⟩
  rw [hs] at hcq
  have HS := Lib.hid hs
  obtain ⟨hnm, hs7⟩ := Cd.wl_name hqv hs
  have HNM := Lib.hid hnm
  have hz1 : ¬ 9223372036854775807 < s.size + 1 := by omega
  have hz2 : ¬ 9223372036854775807 < s.size + 2 := by omega
  have hz3 : ¬ 9223372036854775807 < 1 + s.size := by omega
  clear hnm hs7
  obtain ⟨c, hc0, hc1⟩ : ∃ c : Int, t % 26 = c ∧ (0 ≤ c ∧ c < 26) := ⟨t % 26, rfl, by omega, by omega⟩
  obtain ⟨m, hm, hm20⟩ : ∃ m : Nat, b % 20 = m ∧ m < 20 := ⟨(b % 20).toNat, by omega, by omega⟩
  have hd2 : (20 : Int) ≠ 0 := by decide
  have hd3 : (26 : Int) ≠ 0 := by decide
  have hd1 : (11 : Int) ≠ 0 := by decide
  clear hqv hs hc hb1
  go_enter Try.func3, Try.ntmps3
  go_wp2_with fail
  go_loop [9, 10] (fun v i => ∃ j : Nat, j ≤ m ∧ i = .int .i64 j ∧ v = .string (Cd.rep c j)) (fun _ i => m - (intOf i).toNat)
  case atStart => exact ⟨0, by omega, rfl, rfl⟩
  case round =>
    obtain ⟨j, hj, rfl, rfl⟩ := hrel
    by_cases hlt : j < m
    · have g : decide ((j : Int) < (m : Int)) = true := decide_eq_true (by omega)
      have HREP := Lib.hid (Cd.rep_succ hc1 j)
      have hsz : ¬ 9223372036854775807 < (Cd.rep c j).size + (Utf8.encode (97 + c)).size := by
        rw [Cd.rep_size, Cd.enc hc1]; show ¬ 9223372036854775807 < j + 1; omega
      go_wp2_with fail
      go_round
      case rel => exact ⟨j + 1, by omega, by go_num, congrArg Value.string HREP.out⟩
      case measure => simp [intOf]; omega
    · obtain rfl : m = j := by omega
      have HSZ := Lib.hid (Cd.rep_size c m)
      obtain ⟨r, hr⟩ : ∃ r, Cd.rep c m = r := ⟨_, rfl⟩
      have HR := Lib.hid hr
      rw [hr] at HSZ ⊢
      clear hr
      go_wp2_with fail
      go_loop [11, 40] (fun v i => ∃ j : Nat, j ≤ 11 ∧ i = .int .i64 j ∧ v = .bool ((Cd.wl.take j).all (fun x => !(x.toList == r.toList)))) (fun _ i => 11 - (intOf i).toNat)
      case atStart => exact ⟨0, by omega, rfl, rfl⟩
      case round =>
        obtain ⟨j, hj, rfl, rfl⟩ := hrel
        by_cases hlt : j < 11
        · have hcj := HC.out j hlt
          have HT := Lib.hid (show (Cd.wl.take (j + 1)).all (fun x => !(x.toList == r.toList)) = ((Cd.wl.take j).all (fun x => !(x.toList == r.toList)) && !((Cd.wl.getD j ⟨#[]⟩).toList == r.toList)) from Cd.all_takeB _ hlt _)
          generalize Cd.wl.getD j ⟨#[]⟩ = x at *
          generalize (Cd.wl.take j).all (fun x => !(x.toList == r.toList)) = fr at *
          clear hcq
          rcases fr with _ | _
          · go_wp2_with fail
            go_round
            case rel => exact ⟨j + 1, by omega, by go_num, congrArg Value.bool (HT.out.trans (by simp)).symm⟩
            case measure => simp [intOf]; omega
          · go_wp2_with fail
            go_round
            case rel => exact ⟨j + 1, by omega, by go_num, congrArg Value.bool (HT.out.trans (by simp)).symm⟩
            case measure => simp [intOf]; omega
        · obtain rfl : 11 = j := by omega
          go_wp2_with fail
          have e1 : W.heap.size = W.heap.size := rfl
          rw [show (List.take 11 Cd.wl) = Cd.wl from rfl]
          have HNR := Lib.hid (show Cd.name r = (Cd.wl.all (fun x => !(x.toList == r.toList)) && decide (1 ≤ (m : Int)) && decide ((m : Int) ≤ 16)) from HR.out ▸ Cd.rep_name hc1 hm20)
          have HM := Lib.hid hm
          clear hm HR
          obtain rfl := HSZ.out
          clear HSZ hlt hj
          generalize Cd.wl.all (fun x => !(x.toList == r.toList)) = fr at *
          refine (nameC01 s W1).mono ?_; rintro e w1 ⟨rfl, rfl⟩
          rw [HNM.out.1]
          go_wp2_with fail
          refine (nameC01 _ W1).mono ?_; rintro e w1 ⟨rfl, rfl⟩
          rw [HNM.out.2.1]
          go_wp2_with fail
          refine (nameC01 _ W1).mono ?_; rintro e w1 ⟨rfl, rfl⟩
          rw [HNM.out.2.2.1]
          go_wp2_with fail
          refine (nameC01 _ W1).mono ?_; rintro e w1 ⟨rfl, rfl⟩
          rw [HNM.out.2.2.2.1]
          go_wp2_with fail
          refine (nameC01 _ W1).mono ?_; rintro e w1 ⟨rfl, rfl⟩
          rw [HNM.out.2.2.2.2.1]
          go_wp2_with fail
          refine (nameC01 _ W1).mono ?_; rintro e w1 ⟨rfl, rfl⟩
          rw [HNM.out.2.2.2.2.2]
          go_wp2_with fail
          refine (nameC01 _ W1).mono ?_; rintro e w1 ⟨rfl, rfl⟩
          rw [HNR.out]
          clear HNR HM hm20
          rcases fr with _ | _
          · go_wp2_with fail
            refine (awake01 _).mono ?_; rintro e w2 ⟨rfl, hb⟩
            go_wp2_with fail
            go_ret
            exact ⟨rfl, HB.out.trans (hb.mono HB.out.size)⟩
          by_cases h1 : (1 : Int) ≤ (r.size : Int)
          · by_cases h16 : (r.size : Int) ≤ 16
            · rw [decide_eq_true h1, decide_eq_true h16]
              have g1 : decide ((1 : Int) ≤ (r.size : Int)) = true := decide_eq_true h1
              have g2 : decide ((r.size : Int) ≤ 16) = true := decide_eq_true h16
              clear h1 h16
              go_wp2_with fail
              refine (awake01 _).mono ?_; rintro e w2 ⟨rfl, hb⟩
              go_wp2_with fail
              go_ret
              exact ⟨rfl, HB.out.trans (hb.mono HB.out.size)⟩
            · rw [decide_eq_true h1, decide_eq_false h16]
              have g1 : decide ((1 : Int) ≤ (r.size : Int)) = true := decide_eq_true h1
              have g2 : decide ((r.size : Int) ≤ 16) = false := decide_eq_false h16
              clear h1 h16
              go_wp2_with fail
              refine (awake01 _).mono ?_; rintro e w2 ⟨rfl, hb⟩
              go_wp2_with fail
              go_ret
              exact ⟨rfl, HB.out.trans (hb.mono HB.out.size)⟩
          · rw [decide_eq_false h1]
            have g1 : decide ((1 : Int) ≤ (r.size : Int)) = false := decide_eq_false h1
            clear h1
            go_wp2_with fail
            refine (awake01 _).mono ?_; rintro e w2 ⟨rfl, hb⟩
            go_wp2_with fail
            go_ret
            exact ⟨rfl, HB.out.trans (hb.mono HB.out.size)⟩
end Go.Proofs.Ytdlgfhegafnmcaa
