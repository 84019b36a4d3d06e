/- Journals: a journal goes on behind a crash. -/
import Derived.Test.YtjhdhnefoclccaaJw
import Derived.Test.YtjhdhnefoclccaaJm
namespace Go.Proofs.Ytjhdhnefoclccaa
open Go.RowKit
theorem append_ok (A A' B : Option Addr) (n c n' c' m d : Nat) (l l' p : List Int) (w : World) (h : Nums w .u8 w.heap.size A n c l) (h' : Nums w .u8 w.heap.size A' n' c' l') (hp : Nums w .u8 w.heap.size B m d p) (hw : (Jn.read l).2 = n) (hs : n + n' + (m + 8) ≤ 262144) (hm : m ≤ 4096) :
    Calls Try.prog 13 #[.agg #[.slice A n c, .slice A' n' c'], .slice B m d] w (GivesPending (.slice A n c) (l' ++ Jn.frame p) w) :=
  append23 A A' B n c n' c' m d l l' p w h h' hp (by omega) hm _ (fun hx => absurd hw hx) (fun _ hx => absurd hs (by omega)) (fun _ _ => rfl)
theorem Own.numsN {w : World} {base : Nat} {e : TypeId} {k : IntKind} {v : Value} {l : List Int} (h : Own w base e k v l) (hw : ∀ x ∈ l, (Lit.int k x).wf = true) :
    ∃ A N c, v = .slice A N c ∧ Hid (N = l.length) ∧ Nums w k w.heap.size A N c l := by
  obtain ⟨A, c, hv, hn⟩ := h.nums hw
  exact ⟨A, _, c, hv, Lib.hid rfl, hn⟩
theorem below_box {W w : World} (h : Below W.heap.size W w) (o : Obj) {w' : World} (h' : Below (w.alloc o).heap.size (w.alloc o) w') : Below W.heap.size W w' :=
  (h.alloc h.size o).trans (h'.mono (by have := h.size; simp; omega))
theorem Nums.box {w w' : World} {k : IntKind} {A : Option Addr} {n c : Nat} {l : List Int} (h : Nums w k w.heap.size A n c l) (hb : Below w.heap.size w w') (o : Obj) : Nums (w'.alloc o) k (w'.alloc o).heap.size A n c l :=
  h.keep (hb.alloc hb.size o) (by have := hb.size; simp; omega)
set_option maxRecDepth 100000 in
set_option maxHeartbeats 1600000 in
theorem walkGoes (W : World) (A : Option Addr) (n c : Nat) (l : List Int) (h : Nums W .u8 W.heap.size A n c l) (B : Option Addr) (m d : Nat) (p : List Int) (hp : Nums W .u8 W.heap.size B m d p) (keep : Int) (_ : -9223372036854775808 ≤ keep) (_ : keep ≤ 9223372036854775807) :
    Calls Try.prog 6 #[.slice A n c, .slice B m d, .int .i64 keep] W fun e w => e = .returned (.bool true) ∧ Below W.heap.size W w := by
  have H := Lib.hid h
  have HP := Lib.hid hp
  clear h hp
  rcases Nat.lt_or_ge 300 n with hn | hn
  · have hn' : (300 : Int) < n := by omega
    clear hn
    go_enter Try.func6, Try.ntmps6
    go_wp2_with fail
    refine (awake23 _).mono ?_; rintro e w1 ⟨rfl, hb⟩
    go_wp2
    go_ret
    exact ⟨rfl, hb⟩
  · have hn' : (n : Int) ≤ 300 := by omega
    rcases Nat.lt_or_ge 300 m with hm | hm
    · have hm' : (300 : Int) < m := by omega
      clear hn hm
      go_enter Try.func6, Try.ntmps6
      go_wp2_with fail
      refine (awake23 _).mono ?_; rintro e w1 ⟨rfl, hb⟩
      go_wp2
      go_ret
      exact ⟨rfl, hb⟩
    · have hm' : (m : Int) ≤ 300 := by omega
      have HS := Lib.hid (And.intro hn hm)
      clear hn hm
      go_enter Try.func6, Try.ntmps6
      go_wp2_with fail
      all_goals first | (exfalso; omega) | skip
      refine (append_ok none none A 0 0 0 0 n c [] [] l W (Nums.nil _ _ _) (Nums.nil _ _ _) H.out rfl (by have := HS.out; omega) (by have := HS.out; omega)).mono ?_
      rintro e w1 ⟨v1, rfl, hown1, hb1⟩
      rw [List.nil_append] at hown1
      have hfl := Jn.frame_len l
      have hfw := Jn.frame_wf H.out.wf
      generalize hF1 : Jn.frame l = F1 at *
      obtain ⟨A1, N1, c1, rfl, hN1, hn1⟩ := hown1.numsN hfw
      have HN1 := Lib.hid hn1
      have HB1 := Lib.hid hb1
      have HS1 := Lib.hid (show N1 ≤ 308 by have := hN1.out; have := HS.out; have := H.out.len; omega)
      have HF1 := Lib.hid hfw
      clear hown1 hn1 hb1 hN1 hfl hF1 hfw
      go_wp2_with fail
      refine (crash23 none A1 0 0 N1 c1 [] F1 keep _ (Nums.nil _ _ _) (HN1.out.box (Below.refl _ _) _) (by have := HS1.out; omega)).mono ?_
      rintro e w2 ⟨v2, rfl, hown2, hb2⟩
      rw [List.nil_append] at hown2
      have HB2 := Lib.hid (below_box HB1.out _ hb2)
      have hfw2 : ∀ x ∈ F1.take (Jn.cl keep N1), (Lit.int .u8 x).wf = true := fun x hx => HF1.out x (List.mem_of_mem_take hx)
      have hfl2 : (F1.take (Jn.cl keep N1)).length ≤ 308 := by
        have := HS1.out; have := HN1.out.len; rw [List.length_take]; omega
      generalize F1.take (Jn.cl keep N1) = L2 at *
      obtain ⟨A2, N2, c2, rfl, hN2, hn2⟩ := hown2.numsN hfw2
      clear hown2 hb2 HB1 HN1 HF1
      go_wp2_with fail
      refine (recover23 A2 none N2 c2 0 0 L2 w2 hn2 (by have := hN2.out; omega)).mono ?_
      rintro e w3 ⟨v3, v4, rfl, hown3, hrows3, hb3⟩
      have HB3 := Lib.hid (HB2.out.trans (hb3.mono HB2.out.size))
      have hfw3 : ∀ x ∈ L2.take (Jn.read L2).2, (Lit.int .u8 x).wf = true := fun x hx => hfw2 x (List.mem_of_mem_take hx)
      have hle : (Jn.read L2).2 ≤ L2.length := (Jn.read_le _ L2).1
      have hlen3 : (L2.take (Jn.read L2).2).length = (Jn.read L2).2 := by rw [List.length_take]; omega
      have hrd3 := Jn.read_take L2
      have HR0 := Lib.hid (show (Jn.read L2).1.length ≤ 1000 by have := (Jn.read_le (L2.length + 1) L2).2; have : 8 * (Jn.read L2).1.length ≤ L2.length := this; omega)
      obtain ⟨A4, c4, rfl⟩ := hrows3.form
      generalize L2.take (Jn.read L2).2 = L3 at *
      generalize Jn.read L2 = R at *
      have HR3 := Lib.hid (And.intro hrd3 (And.intro hlen3 (show R.2 ≤ 308 by omega)))
      have HF3 := Lib.hid hfw3
      obtain ⟨A3, N3, c3, rfl, hN3, hn3⟩ := hown3.numsN hfw3
      have HN3 := Lib.hid hn3
      have HS3 := hN3
      clear hfw2 hfl2 hN2 hn2 hown3 hrows3 hb3 HB2 hfw3 hle hlen3 hrd3 hn3 hN3
      have hRl : ((R.1.length : Nat) : Int) ≤ 1000 := by have := HR0.out; omega
      generalize hRn : R.1.length = Rn at *
      have HRn := Lib.hid hRn
      clear hRn
      go_wp2_with fail
      refine (append_ok A3 none B N3 c3 0 0 m d L3 [] p _ (HN3.out.box (Below.refl _ _) _) (Nums.nil _ _ _) (HP.out.box HB3.out _) (by rw [HR3.out.1, HS3.out, HR3.out.2.1]) (by have := HS.out; have := HR3.out.2; have := HS3.out; omega) (by have := HS.out; omega)).mono ?_
      rintro e w5 ⟨v5, rfl, hown5, hb5⟩
      rw [List.nil_append] at hown5
      have HB5 := Lib.hid (below_box HB3.out _ hb5)
      have HN5 := Lib.hid (HN3.out.keep (below_box (Below.refl _ _) _ hb5) (below_box (Below.refl _ _) _ hb5).size)
      have hfl := Jn.frame_len p
      have hfw := Jn.frame_wf HP.out.wf
      have hrf := Jn.read_frame (p := p) (by have := HS.out; have := HP.out.len; omega) []
      rw [List.append_nil] at hrf
      generalize Jn.frame p = F5 at *
      obtain ⟨A5, N5, c5, rfl, hN5, hn5⟩ := hown5.numsN hfw
      have HF5 := Lib.hid (And.intro hfl (And.intro hfw (And.intro hrf (And.intro hN5.out hn5))))
      clear hfl hfw hrf hN5 hn5 hown5 hb5
      go_wp2_with fail
      refine (sync23 A3 A5 N3 c3 N5 c5 L3 F5 _ (HN5.out.box (Below.refl _ _) _) (HF5.out.2.2.2.2.box (Below.refl _ _) _) (by have := HS.out; have := HR3.out.2; have := HS3.out; have := HF5.out.1; have := HF5.out.2.2.2.1; have := HP.out.len; omega)).mono ?_
      rintro e w6 ⟨v6, rfl, hown6, hb6⟩
      have HB6 := Lib.hid (below_box HB5.out _ hb6)
      have hfw6 : ∀ x ∈ L3 ++ F5, (Lit.int .u8 x).wf = true := fun x hx => (List.mem_append.1 hx).elim (HF3.out x) (HF5.out.2.1 x)
      have hlen6 : (L3 ++ F5).length ≤ 1000 := by
        have := HS.out; have := HR3.out.2; have := HF5.out.1; have := HP.out.len; rw [List.length_append]; omega
      have hrd6 : (Jn.read (L3 ++ F5)).1 = R.1 ++ [p] := by
        rw [Jn.read_whole (by rw [HR3.out.1, HR3.out.2.1]) F5, HR3.out.1, HF5.out.2.2.1]; rfl
      generalize L3 ++ F5 = L6 at *
      obtain ⟨A6, N6, c6, rfl, hN6, hn6⟩ := hown6.numsN hfw6
      clear hown6 hb6
      go_wp2_with fail
      refine (recover23 A6 none N6 c6 0 0 L6 w6 hn6 (by have := hN6.out; omega)).mono ?_
      rintro e w7 ⟨v7, v8, rfl, hown7, hrows7, hb7⟩
      have HB7 := Lib.hid (HB6.out.trans (hb7.mono HB6.out.size))
      rw [hrd6] at hrows7
      obtain ⟨A7, N7, c7, rfl, _, _⟩ := hown7.numsN (fun x hx => hfw6 x (List.mem_of_mem_take hx))
      have hlr : (R.1 ++ [p]).length = Rn + 1 := by rw [List.length_append, HRn.out]; rfl
      obtain ⟨A8, c8, rfl, _, hc8⟩ := hrows7.read
      obtain ⟨g, vi, rfl, hg, hcell, howni⟩ := hc8 Rn (by omega)
      rw [show (R.1 ++ [p]).getD Rn [] = p from by rw [← HRn.out]; simp] at howni
      obtain ⟨Ai, Ni, ci, rfl, hNi, hni⟩ := howni.numsN HP.out.wf
      generalize hM : (R.1 ++ [p]).length = M at *
      have hM1 : (M : Int) = (Rn : Int) + 1 := by omega
      have hw1 : IntKind.i64.wrap ((Rn : Int) + 1) = (M : Int) := by rw [← hM1]; simp [IntKind.wrap, IntKind.bits, IntKind.signed]; omega
      have hw2 : IntKind.i64.wrap ((M : Int) - 1) = (Rn : Int) := by rw [show (M : Int) - 1 = Rn from by omega]; simp [IntKind.wrap, IntKind.bits, IntKind.signed]; omega
      have hi1 : (Rn : Int) < M := by omega
      have hi0 : (0 : Int) ≤ Rn := by omega
      clear hlr hc8 hM hrows7 hown7 howni hN6 hn6 hrd6 hfw6 hlen6 hM1
      go_wp2_with fail
      obtain ⟨W7, hW7⟩ : ∃ W7, w7.alloc (.cells #[.slice A7 N7 c7, .slice none 0 0] 29) = W7 := ⟨_, rfl⟩
      rw [hW7]
      have hbox : Below w7.heap.size w7 W7 := by rw [← hW7]; exact (Below.refl w7.heap.size w7).alloc (Nat.le_refl _) _
      have HB8 := Lib.hid (HB7.out.trans (hbox.mono HB7.out.size))
      have d1 := Aft.cell (below_cell hbox hcell)
      have hni' := hni.keep hbox hbox.size
      have hp' := HP.out.keep HB8.out HB8.out.size
      have s1 : ∀ x : Aft W7, (convert 22 9 (.slice Ai Ni ci)).run Try.prog x.now = .ok (.string (strOfNums p)) x.now := fun x => (hni'.aft x).str _ _ _ Try.underlying22 Try.underlying5 Try.underlying9
      have s2 : ∀ x : Aft W7, (convert 22 9 (.slice B m d)).run Try.prog x.now = .ok (.string (strOfNums p)) x.now := fun x => (hp'.aft x).str _ _ _ Try.underlying22 Try.underlying5 Try.underlying9
      clear hbox hcell hni' hp' hni hNi hg hb7 HN5 HF5 HB6 HB7 HB3 HB5 HN3 HS3 HF3 HR3 HR0 HS1 hW7
      refine wp_region_aft (by kernel_rfl) (by kernel_rfl) ?_
      repeat (go_big_quiet_step (first | with_reducible exact Calls.aft (awake23 _)))
      refine wpQuiet_nil ?_
      rintro _ ⟨⟨w9, hb9⟩, rfl⟩
      go_wp2
      go_ret
      exact ⟨rfl, HB8.out.trans (hb9.mono HB8.out.size)⟩
end Go.Proofs.Ytjhdhnefoclccaa
