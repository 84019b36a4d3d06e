/- Cells: together, key. -/
import Derived.Test.YtojeendofpallaaCz
import Derived.Test.YtojeendofpallaaCl
import Derived.Test.YtojeendofpallaaBits
import Derived.Test.YtojeendofpallaaStr
namespace Go.Proofs.Ytojeendofpallaa
open Go.RowKit
def GivesRows (ls : List (List Int)) (w : World) (e : Ending) (w' : World) : Prop := ∃ A c, e = .returned (.agg #[.slice A ls.length c]) ∧ OwnRows w' w.heap.size 22 3 .i64 (.slice A ls.length c) ls ∧ Below w.heap.size w w'
theorem Box.alloc {w : World} {f : Nat} {v : Value} {T : TypeId} (h : Box w f v T) (o : Obj) : Box (w.alloc o) f v T := h.below ((Below.refl _ _).alloc (Nat.le_refl _) _)
/-- rows that are collected in a variable behind a pointer, beside the result's box -/
def TInv (w : World) (ls : List (List Int)) (q : Value) (X : World) : Prop :=
  OwnRows X (w.heap.size + 3) 22 3 .i64 q ls ∧ Box X (w.heap.size + 1 + 1) q 27 ∧ Box X (w.heap.size + 1) (.slice none 0 0) 27 ∧ Below w.heap.size w X ∧ w.heap.size + 3 ≤ X.heap.size
theorem TInv.below {w X Y : World} {ls : List (List Int)} {q : Value} (h : TInv w ls q X) (hb : Below X.heap.size X Y) : TInv w ls q Y :=
  ⟨h.1.below hb, h.2.1.below hb, h.2.2.1.below hb, h.2.2.2.1.trans (hb.mono h.2.2.2.1.size), Nat.le_trans h.2.2.2.2 hb.size⟩
theorem TInv.grow {w X w' : World} {ls ls' : List (List Int)} {q v' : Value} (h : TInv w ls q X) (hg : X.grownBy w' q.ownBlock) (ho : OwnRows w' (w.heap.size + 3) 22 3 .i64 v' ls') :
    Box w' (w.heap.size + 1 + 1) q 27 ∧ TInv w ls' v' (w'.setCell ⟨w.heap.size + 1 + 1, 0, none⟩ v') := by
  obtain ⟨h1, h2, h3, h4, h5⟩ := h
  have hgr := h1.grow h4 hg h4.size (by omega)
  obtain ⟨xs, h1, _⟩ := h1
  have e2 := h2.row h1 hg (by decide)
  have e3 := h3.row h1 hg (by decide)
  refine ⟨e2, ho.set (by simp) v', e2.set v', e3.far (grownBy_set w' _ 0 v') (by omega), hgr.setCell (by simp; omega) _, ?_⟩
  simp only [World.size_setCell]
  exact Nat.le_trans h5 hg.size
theorem three_boxes (w : World) (a b c : Value) (T U V : TypeId) : ∃ W : World, ((w.alloc (.cells #[a] T)).alloc (.cells #[b] U)).alloc (.cells #[c] V) = W ∧ Below w.heap.size w W ∧ Box W w.heap.size a T ∧ Box W (w.heap.size + 1) b U ∧ Box W (w.heap.size + 1 + 1) c V ∧ W.heap.size = w.heap.size + 3 := by
  have hh := allocs_heap w [.cells #[a] T, .cells #[b] U, .cells #[c] V]
  exact ⟨_, rfl, (((Below.refl _ _).alloc (Nat.le_refl _) _).alloc (by simp) _).alloc (by simp; omega) _, alloc_at hh _ 0 rfl, alloc_at hh _ 1 rfl, alloc_at hh _ 2 rfl, by simp⟩
theorem set_self (l : List Int) (j : Nat) (hj : j < l.length) : l.set j (l.getD j 0) = l := by
  refine List.ext_getElem (by simp) fun i h1 h2 => ?_
  rw [List.getElem_set]
  split
  · subst_vars; simp [List.getD, hj]
  · rfl
def Ce.mix (t g : List Int) (j : Nat) : List Int := t.take j ++ g.drop j
theorem Ce.mix_len {t g : List Int} (h : t.length = g.length) {j : Nat} (hj : j ≤ g.length) : (Ce.mix t g j).length = g.length := by unfold Ce.mix; rw [List.length_append, List.length_take, List.length_drop]; omega
theorem Ce.mix_get {t g : List Int} (h : t.length = g.length) {j : Nat} (hj : j < g.length) : (Ce.mix t g j).getD j 0 = g.getD j 0 := by
  unfold Ce.mix
  have hl : (t.take j).length = j := by rw [List.length_take]; omega
  simp only [List.getD]
  rw [List.getElem?_append_right (by omega), hl, Nat.sub_self]
  simp [hj]
theorem Ce.mix_succ {t g : List Int} (h : t.length = g.length) {j : Nat} (hj : j < g.length) : Ce.mix t g (j + 1) = (Ce.mix t g j).set j (t.getD j 0) := by
  unfold Ce.mix
  have hl : (t.take j).length = j := by rw [List.length_take]; omega
  rw [List.set_append_right _ _ (by omega), hl, Nat.sub_self, take_succ_getD t j (by omega), List.append_assoc]
  congr 1
  rw [List.drop_eq_getElem_cons hj]
  rfl
theorem Ce.mix_same {t g : List Int} (h : t.length = g.length) {j : Nat} (hj : j < g.length) (he : t.getD j 0 = g.getD j 0) : Ce.mix t g (j + 1) = Ce.mix t g j := by
  rw [Ce.mix_succ h hj, he, ← Ce.mix_get h hj]
  have := Ce.mix_len h (Nat.le_of_lt hj)
  exact set_self _ j (by omega)
theorem bit_and (set k : Nat) (hs : set ≤ 1000) : bits BinOp.and IntKind.i64 ((set : Int) / 2 ^ k) 1 = ((set / 2 ^ k % 2 : Nat) : Int) := by
  have e : ((set : Int) / 2 ^ k) = ((set / 2 ^ k : Nat) : Int) := by simp
  have hle : set / 2 ^ k ≤ set := Nat.div_le_self _ _
  rw [e, show (1 : Int) = ((1 : Nat) : Int) from rfl, Bw.i64_and_nat _ _ (by omega) (by omega), Nat.and_one_is_mod]
set_option maxHeartbeats 1600000 in
theorem together28 (v : Value) (ss : List Int) (vs : List (List Int)) (set : Nat) (w : World) (hs : Ce.Space ss) (h : Vw w v ss vs) (hset : set ≤ 16) :
    Calls Try.prog 71 #[v, .int .i64 set] w (GivesRows (Ce.tog vs set) w) := by
  obtain ⟨⟨A, n, c, rfl, hn⟩, hv⟩ := h
  obtain ⟨W, hW, hb, hb0, hb1, hb2, hsz⟩ := three_boxes w (.slice A n c) (.slice none 0 0) (.slice none 0 0) 27 27 27
  have HN := Lib.hid hn
  have HV := Lib.hid hv
  have HS := Lib.hid hs
  have HL := Lib.hid (show vs.length = n from hn.len)
  have HLS := Lib.hid (show ss.length = n by rw [← hv.len]; exact hn.len)
  have hm4 : n ≤ 4 := by rw [← hn.len, hv.len]; exact hs.few
  have HT := Lib.hid (show TInv w [] (.slice none 0 0) W from ⟨OwnRows.nil _ _ _ _ _, hb2, hb1, hb, by omega⟩)
  have k0 := hb0.cell
  clear hn hv hs hb hb0 hb1 hb2 hsz
  go_enter Try.func71, Try.ntmps71
  go_wp2_with fail
  clear hW k0
  go_loopw [12] (fun i wr => ∃ (k : Nat) (q : Value), k ≤ n ∧ i = .int .i64 k ∧ Hid (TInv w ((Ce.tog vs set).take k) q wr)) (fun i _ => n - (intOf i).toNat)
  case atStart => exact ⟨0, _, by omega, rfl, Lib.hid (by simpa using HT.out)⟩
  case round =>
    rename World => X
    obtain ⟨k, q, hk, rfl, HI⟩ := hrel
    by_cases hlt : k < n
    · have hks : k < ss.length := by rw [HLS.out]; exact hlt
      obtain ⟨ad, Aj, nj, cj, rfl, _, hc, hr⟩ := (HN.out.keep HI.out.2.2.2.1 (Nat.le_refl _)).row hlt
      have hn8 : nj ≤ 8 := by
        have a := HV.out.lens k hks
        have b := HS.out.hi k hks
        rw [hr.len] at a
        omega
      have hn1 : 1 ≤ nj := by
        have a := HV.out.lens k hks
        have b := HS.out.lo k hks
        rw [hr.len] at a
        omega
      have HR := Lib.hid (hr.keep (Below.refl _ _) HI.out.2.2.2.1.size)
      obtain ⟨g, hg⟩ : ∃ g, vs.getD k [] = g := ⟨_, rfl⟩
      rw [hg] at HR
      have HGG := Lib.hid hg
      clear hr hg
      go_wp2_with fail
      refine (clone_any Aj nj cj g X HR.out (by omega)).mono ?_; rintro e w2 ⟨u, rfl, ho2, hb2⟩
      obtain ⟨g2, c2, rfl, hg20, _, _, _⟩ := ho2.rowg HR.out.len hn1
      have HO2 := Lib.hid ho2
      have HB2 := Lib.hid hb2
      clear ho2 hb2 hc
      go_wp2_with fail
      go_loopw [21] (fun i wr => ∃ j : Nat, j ≤ nj ∧ i = .int .i64 j ∧ Hid (Own wr X.heap.size 3 .i64 (.slice (some ⟨g2, 0, none⟩) nj c2) (Ce.mix (Ce.togi vs set k) g j) ∧ Below X.heap.size X wr)) (fun i _ => nj - (intOf i).toNat)
      case atStart => exact ⟨0, by omega, rfl, by simpa [Ce.mix] using HO2.out, HB2.out⟩
      case round =>
        rename World => Y
        obtain ⟨j, hj, rfl, HJ⟩ := hrel
        by_cases hlj : j < nj
        · have hgl : j < g.length := by rw [HR.out.len]; exact hlj
          have htl : (Ce.togi vs set k).length = g.length := by unfold Ce.togi; rw [HGG.out]; split <;> simp [Ce.flat1_len]
          have c0 := HJ.out.1.cell (j := j) (by rw [Ce.mix_len htl (by omega)]; exact hgl)
          rw [Ce.mix_get htl hgl] at c0
          have f0 := HJ.out.1.thaw j
          obtain ⟨p, hp⟩ : ∃ p, g.getD j 0 = p := ⟨_, rfl⟩
          rw [hp] at c0
          have HP := Lib.hid hp
          have hbit := bit_and set k (by omega)
          rcases Nat.mod_two_eq_zero_or_one (set / 2 ^ k) with hb2 | hb2
          · have htj : (Ce.togi vs set k).getD j 0 = g.getD j 0 := by unfold Ce.togi Ce.bit; rw [hb2, if_neg (by omega), HGG.out]
            have HE := Lib.hid (Ce.mix_same htl hgl htj)
            rw [hb2] at hbit
            have hbit : bits BinOp.and IntKind.i64 ((set : Int) / 2 ^ k) 1 = 0 := hbit
            clear hb2 htj hp
            go_wp2_with fail
            go_roundw
            case rel => exact ⟨j + 1, by omega, by go_num, by rw [HE.out]; exact HJ.out.1, HJ.out.2⟩
            case measure => simp [intOf]; omega
          · have htj : (Ce.togi vs set k).getD j 0 = if p = -1 then -1 else 0 := by unfold Ce.togi Ce.bit; rw [hb2, if_pos rfl, HGG.out, Ce.flat1_get hgl, hp]
            rw [hb2] at hbit
            have hbit : bits BinOp.and IntKind.i64 ((set : Int) / 2 ^ k) 1 = 1 := hbit
            by_cases hpm : p = -1
            · have g1 : (p != -1) = false := by simp [hpm]
              have HE := Lib.hid (Ce.mix_same htl hgl (by rw [htj, if_pos hpm, HP.out, hpm]))
              clear hb2 htj hp hpm
              go_wp2_with fail
              go_roundw
              case rel => exact ⟨j + 1, by omega, by go_num, by rw [HE.out]; exact HJ.out.1, HJ.out.2⟩
              case measure => simp [intOf]; omega
            · have g1 : (p != -1) = true := by simpa using hpm
              have HE := Lib.hid (Ce.mix_succ htl hgl)
              have HTJ := Lib.hid (show (Ce.togi vs set k).getD j 0 = 0 by rw [htj, if_neg hpm])
              clear hb2 htj hp hpm
              go_wp2_with fail
              go_roundw
              case rel =>
                have q := HJ.out.1.store j 0
                exact ⟨j + 1, by omega, by go_num, by rw [HE.out, HTJ.out]; exact q.1, HJ.out.1.grow HJ.out.2 q.2 HJ.out.2.size (Nat.le_refl _)⟩
              case measure => simp [intOf]; omega
        · obtain rfl : j = nj := by omega
          have htl : (Ce.togi vs set k).length = g.length := by unfold Ce.togi; rw [HGG.out]; split <;> simp [Ce.flat1_len]
          have hrow := HJ.out.1
          rw [show Ce.mix (Ce.togi vs set k) g j = Ce.togi vs set k by unfold Ce.mix; rw [List.take_of_length_le (by rw [htl, HR.out.len]; exact Nat.le_refl _), List.drop_of_length_le (by rw [HR.out.len]; exact Nat.le_refl _), List.append_nil]] at hrow
          have hv1 := HI.out.below HJ.out.2
          obtain ⟨Aq, cq, rfl, _, _⟩ := hv1.1.read
          have hlen : ((Ce.tog vs set).take k).length = k := by rw [List.length_take, Ce.tog_len, HL.out]; omega
          rw [hlen] at hv1
          have k1 := hv1.2.1.cell
          have HROW := Lib.hid (hrow.base_le HI.out.2.2.2.2)
          have HV1 := Lib.hid (hv1.below ((Below.refl _ _).alloc (Nat.le_refl _) (.cells #[.slice (some ⟨g2, 0, none⟩) j c2] 22)))
          have HE := Lib.hid (show (Ce.tog vs set).take (k + 1) = (Ce.tog vs set).take k ++ [Ce.togi vs set k] from Ce.tog_take (by rw [HL.out]; exact hlt))
          have HLN := Lib.hid hlen
          clear hrow hv1 hlen htl
          go_wp2_with (at_builtin; refine app_row _ rfl _ _ _ rfl (w.heap.size + 3) 22 3 (by decide) 24 .i64 ints_info Try.underlying25 _ ((Ce.tog vs set).take k) rfl HV1.out.1 (.slice (some ⟨g2, 0, none⟩) j c2) (Ce.togi vs set k) (HROW.out.alloc _) Y.heap.size rfl (by simp [go_sem]) rfl (by rw [HLN.out]; simp only [maxLen]; omega) (by rw [HLN.out]; omega) HV1.out.2.2.2.2 ?_; intro v' w' hown' hgrow; obtain ⟨A9, c9, e9, _, _⟩ := hown'.read; rw [List.length_append, List.length_singleton, HLN.out] at e9; subst e9; (have hvg := HV1.out.grow hgrow hown'); (have q0 := hvg.1.cell); (have q1 := hvg.1.thaw); (have HVG := Lib.hid hvg.2); clear hown' hgrow hvg)
          go_roundw
          case rel => exact ⟨k + 1, _, by omega, by go_num, by rw [HE.out]; exact HVG.out⟩
          case measure => simp [intOf]; omega
    · obtain rfl : k = n := by omega
      obtain ⟨Aq, cq, rfl, _, _⟩ := HI.out.1.read
      have k1 := HI.out.2.1.cell
      have k2 := HI.out.2.2.1.cell
      have f2 := HI.out.2.2.1.thaw
      have HALL := Lib.hid (show (Ce.tog vs set).take k = Ce.tog vs set from List.take_of_length_le (by rw [Ce.tog_len, HL.out]; exact Nat.le_refl _))
      have HLN := Lib.hid (show ((Ce.tog vs set).take k).length = (Ce.tog vs set).length by rw [HALL.out])
      rw [HLN.out] at k1 HI
      go_wp2_with fail
      have hres := HI.out.1
      rw [HALL.out] at hres
      exact bodyPost_ret (v := .agg #[.slice Aq (Ce.tog vs set).length cq]) (by simp [results, Try.results71, go_sem, *]) rfl
        ⟨_, _, rfl, (hres.set (by simp) _).base_le (by omega), HI.out.2.2.2.1.setCell (by simp) _⟩
theorem byte_info28 : (Try.prog.info? 5).map (fun i => (i.zero, i.size, i.bytes)) = some (some (.int .u8 0), 1, 1) := by kernel_rfl
theorem Ce.kbytes_take (vs : List (List Int)) {k : Nat} (hk : k < vs.length) : Ce.kbytes (vs.take (k + 1)) = Ce.kbytes (vs.take k) ++ (vs.getD k []).map Ce.kb := by
  unfold Ce.kbytes
  rw [List.take_succ_eq_append_getElem hk, List.flatMap_append]
  simp [List.getD, hk]
theorem Ce.kbytes_len (vs : List (List Int)) {m : Nat} (h : ∀ j, j < vs.length → (vs.getD j []).length ≤ m) : ∀ k, k ≤ vs.length → (Ce.kbytes (vs.take k)).length ≤ m * k
  | 0, _ => by simp [Ce.kbytes]
  | k + 1, hk => by
    have h1 := Ce.kbytes_len vs h k (by omega)
    have h2 := h k (by omega)
    rw [Ce.kbytes_take vs (by omega), List.length_append, List.length_map, Nat.mul_add]
    omega
set_option maxHeartbeats 800000 in
theorem key28 (v : Value) (ss : List Int) (vs : List (List Int)) (w : World) (hs : Ce.Space ss) (h : Vw w v ss vs) :
    Calls Try.prog 70 #[v] w fun e w' => e = .returned (.string (strOfNums (Ce.kbytes vs))) ∧ Below w.heap.size w w' := by
  obtain ⟨⟨A, n, c, rfl, hn⟩, hv⟩ := h
  obtain ⟨W, hW, hb⟩ : ∃ W : World, w.alloc (.cells #[.slice A n c] 27) = W ∧ Below w.heap.size w W := ⟨_, rfl, (Below.refl _ _).alloc (Nat.le_refl _) _⟩
  have k0 : W.cell? ⟨w.heap.size, 0, none⟩ = some (.slice A n c) := by rw [← hW]; simp [go_sem]
  have H := Lib.hid (hn.keep hb hb.size)
  have HL := Lib.hid (show vs.length = n from hn.len)
  have HLS := Lib.hid (show ss.length = n by rw [← hv.len]; exact hn.len)
  have hm4 : n ≤ 4 := by rw [← hn.len, hv.len]; exact hs.few
  have h8 : ∀ j, j < vs.length → (vs.getD j []).length ≤ 8 := fun j hj => by
    have a := hv.lens j (by rw [← hv.len]; exact hj)
    have b := hs.hi j (by rw [← hv.len]; exact hj)
    omega
  have HK := Lib.hid (Ce.kbytes_len vs h8)
  have H8 := Lib.hid h8
  have HV := Lib.hid hv
  have HB := Lib.hid hb
  clear hn hv hb h8
  go_enter Try.func70, Try.ntmps70
  go_wp2_with fail
  clear hW
  go_loopw [3, 11] (fun q i wr => ∃ k : Nat, k ≤ n ∧ i = .int .i64 k ∧ Hid (Own wr W.heap.size 5 .u8 q (Ce.kbytes (vs.take k)) ∧ Below W.heap.size W wr)) (fun _ i _ => n - (intOf i).toNat)
  case atStart => exact ⟨0, by omega, rfl, Lib.hid ⟨by simpa [Ce.kbytes] using Own.nil _ _ _ _, Below.refl _ _⟩⟩
  case round =>
    rename World => X
    obtain ⟨k, hk, rfl, HI⟩ := hrel
    by_cases hlt : k < n
    · obtain ⟨ad, Aj, nj, cj, rfl, _, hc0, hr⟩ := H.out.row hlt
      have hc := below_cell HI.out.2 hc0
      obtain ⟨g, hg⟩ : ∃ g, vs.getD k [] = g := ⟨_, rfl⟩
      rw [hg] at hr
      have HR0 := Lib.hid hr
      have HR := HR0
      have HGG := Lib.hid hg
      have hg8 : nj ≤ 8 := by rw [← hr.len, ← hg]; exact H8.out k (by rw [HL.out]; exact hlt)
      have hkb := HK.out k (by rw [HL.out]; exact hk)
      clear hr hg
      go_wp2_with fail
      go_loopw [3, 17] (fun q i wr => ∃ j : Nat, j ≤ nj ∧ i = .int .i64 j ∧ Hid (Own wr W.heap.size 5 .u8 q (Ce.kbytes (vs.take k) ++ (g.take j).map Ce.kb) ∧ Below W.heap.size W wr)) (fun _ i _ => nj - (intOf i).toNat)
      case atStart => exact ⟨0, by omega, rfl, Lib.hid (by simpa using HI.out)⟩
      case round =>
        rename World => Y
        obtain ⟨j, hj, rfl, HJ⟩ := hrel
        by_cases hlj : j < nj
        · obtain ⟨ad2, p, rfl, _, HP, hp, _⟩ := (HR0.out.keep HJ.out.2 HJ.out.2.size).val hlj
          have HE := Lib.hid (show (g.take (j + 1)).map Ce.kb = (g.take j).map Ce.kb ++ [Ce.kb p] by rw [take_succ_getD g j HP.out.2, HP.out.1, List.map_append]; rfl)
          have HLN := Lib.hid (show (Ce.kbytes (vs.take k) ++ (g.take j).map Ce.kb).length ≤ 8 * k + 8 by rw [List.length_append, List.length_map, List.length_take]; omega)
          go_wp2_with (at_builtin; refine app_int _ rfl _ _ _ rfl W.heap.size 5 1 .u8 byte_info28 Try.underlying28 _ _ rfl (HJ.out.1.alloc _) (Ce.kb p) Y.heap.size rfl (by simp [go_sem, Ce.kb]) (by have := HLN.out; simp only [maxLen]; omega) (by have := HLN.out; omega) (by have := HJ.out.2.size; simp; omega) ?_; intro v' w' hown' hgrow)
          go_roundw
          case rel => exact ⟨j + 1, by omega, by go_num, ⟨by rw [HE.out, ← List.append_assoc]; exact hown', (HJ.out.1.alloc _).grow (HJ.out.2.alloc HJ.out.2.size _) hgrow (by have := HJ.out.2.size; simp; omega) (Nat.le_refl _)⟩⟩
          case measure => simp [intOf]; omega
        · obtain rfl : j = nj := by omega
          have HE := Lib.hid (show Ce.kbytes (vs.take (k + 1)) = Ce.kbytes (vs.take k) ++ (g.take j).map Ce.kb by rw [Ce.kbytes_take vs (by rw [HL.out]; exact hlt), HGG.out, List.take_of_length_le (show g.length ≤ j by rw [HR.out.len]; exact Nat.le_refl _)])
          go_wp2_with fail
          go_roundw
          case rel => exact ⟨k + 1, by omega, by go_num, by rw [HE.out]; exact HJ.out.1, HJ.out.2⟩
          case measure => simp [intOf]; omega
    · obtain rfl : k = n := by omega
      have hres := HI.out.1
      rw [List.take_of_length_le (by rw [HL.out]; exact Nat.le_refl _)] at hres
      obtain ⟨Aq, cq, rfl, hnq⟩ := hres.nums (Ce.kbytes_wf vs)
      have hstr := hnq.str 28 9 5 Try.underlying28 Try.underlying5 Try.underlying9 (P := Try.prog)
      clear hnq hres
      go_wp2_with fail
      go_ret
      exact ⟨rfl, HB.out.trans (HI.out.2.mono HB.out.size)⟩
end Go.Proofs.Ytojeendofpallaa
