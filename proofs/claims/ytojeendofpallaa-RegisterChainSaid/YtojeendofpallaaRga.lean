/- Register: the sum of bytes, both. -/
import Derived.Test.YtojeendofpallaaDa
import Derived.Test.YtojeendofpallaaMk
import Derived.Lib.AppendStr
namespace Go.Proofs.Ytojeendofpallaa
open Go.RowKit
namespace Rg
def step (s x : Int) : Int := IntKind.u64.wrap (bits BinOp.xor IntKind.u64 s x * 1099511628211)
def fnv (l : List Int) : Int := l.foldl step 14695981039346656037
theorem fnv_take {l : List Int} {j : Nat} (hj : j < l.length) : fnv (l.take (j + 1)) = step (fnv (l.take j)) (l.getD j 0) := by
  unfold fnv
  rw [List.take_succ_eq_append_getElem hj, List.foldl_append]
  simp [List.getD, hj]
end Rg
set_option maxHeartbeats 400000 in
theorem sum38 (A : Option Addr) (n c : Nat) (l : List Int) (B : Nat) (w : World) (h : Nums w .u8 B A n c l) :
    Calls Try.prog 41 #[.slice A n c] w fun e w' => e = .returned (.int .u64 (Rg.fnv l)) ∧ w = w' := by
  have hm : n ≤ 9223372036854775807 := by have := h.cap; have := h.max; unfold maxLen at this; omega
  have H := Lib.hid h
  have HL := Lib.hid h.len
  clear h
  go_enter Try.func41, Try.ntmps41
  go_wp2_with fail
  go_loop [3, 8] (fun s i => ∃ j : Nat, j ≤ n ∧ i = .int .i64 j ∧ s = .int .u64 (Rg.fnv (l.take j))) (fun _ i => n - (intOf i).toNat)
  case atStart => exact ⟨0, by omega, rfl, rfl⟩
  case round =>
    obtain ⟨j, hj, rfl, rfl⟩ := hrel
    by_cases hlt : j < n
    · obtain ⟨ad, x, rfl, _, HX, hx, hwx⟩ := H.out.val hlt
      have hb := bounds_u8 hwx
      have hwr : IntKind.u64.wrap x = x := by simp [IntKind.wrap, IntKind.bits, IntKind.signed]; omega
      have HE := Lib.hid (show Rg.fnv (l.take (j + 1)) = Rg.step (Rg.fnv (l.take j)) x by rw [Rg.fnv_take (by rw [HL.out]; exact hlt), HX.out.1])
      generalize Rg.fnv (l.take j) = s at HE ⊢
      clear hwx
      go_wp2_with fail
      go_round
      case rel => exact ⟨j + 1, by omega, by go_num, by rw [HE.out]; rfl⟩
      case measure => simp [intOf]; omega
    · obtain rfl : n = j := by omega
      have HE := Lib.hid (show Rg.fnv (l.take n) = Rg.fnv l by rw [List.take_of_length_le (by rw [HL.out]; omega)])
      rw [HE.out]
      go_wp2_with fail
      go_ret
      exact ⟨rfl, rfl⟩
set_option maxHeartbeats 400000 in
theorem rsum38 (A : Option Addr) (n c : Nat) (l : List Int) (B : Nat) (w : World) (h : Nums w .u8 B A n c l) :
    Calls Try.prog 42 #[.slice A n c] w fun e w' => e = .returned (.int .u64 (Rg.fnv l)) ∧ w = w' := by
  have hm : n ≤ 9223372036854775807 := by have := h.cap; have := h.max; unfold maxLen at this; omega
  have H := Lib.hid h
  have HL := Lib.hid h.len
  clear h
  go_enter Try.func42, Try.ntmps42
  go_wp2_with fail
  go_loop [3, 8] (fun s i => ∃ j : Nat, j ≤ n ∧ i = .int .i64 j ∧ s = .int .u64 (Rg.fnv (l.take j))) (fun _ i => n - (intOf i).toNat)
  case atStart => exact ⟨0, by omega, rfl, rfl⟩
  case round =>
    obtain ⟨j, hj, rfl, rfl⟩ := hrel
    by_cases hlt : j < n
    · obtain ⟨ad, x, rfl, _, HX, hx, hwx⟩ := H.out.val hlt
      have hb := bounds_u8 hwx
      have hwr : IntKind.u64.wrap x = x := by simp [IntKind.wrap, IntKind.bits, IntKind.signed]; omega
      have HE := Lib.hid (show Rg.fnv (l.take (j + 1)) = Rg.step (Rg.fnv (l.take j)) x by rw [Rg.fnv_take (by rw [HL.out]; exact hlt), HX.out.1])
      generalize Rg.fnv (l.take j) = s at HE ⊢
      clear hwx
      go_wp2_with fail
      go_round
      case rel => exact ⟨j + 1, by omega, by go_num, by rw [HE.out]; rfl⟩
      case measure => simp [intOf]; omega
    · obtain rfl : n = j := by omega
      have HE := Lib.hid (show Rg.fnv (l.take n) = Rg.fnv l by rw [List.take_of_length_le (by rw [HL.out]; omega)])
      rw [HE.out]
      go_wp2_with fail
      go_ret
      exact ⟨rfl, rfl⟩
/-- a byte of a number, and a number in so many bytes, the highest first -/
def Rg.byt (n : Int) (i : Nat) : Int := n / 2 ^ (8 * i) % 256
def Rg.num (k : Nat) (n : Int) : List Int := (List.range k).reverse.map (Rg.byt n)
/-- its first j bytes -/
def Rg.numUp (k : Nat) (n : Int) (j : Nat) : List Int := (List.range k).reverse.take j |>.map (Rg.byt n)
theorem Rg.numUp_len {k j : Nat} (hj : j ≤ k) (n : Int) : (Rg.numUp k n j).length = j := by simp [Rg.numUp]; omega
theorem Rg.numUp_succ {k j : Nat} (hj : j < k) (n : Int) : Rg.numUp k n (j + 1) = Rg.numUp k n j ++ [Rg.byt n (k - 1 - j)] := by
  unfold Rg.numUp
  rw [List.take_succ_eq_append_getElem (by simpa using hj), List.map_append]
  simp
theorem Rg.numUp_all (k : Nat) (n : Int) : Rg.numUp k n k = Rg.num k n := by
  unfold Rg.numUp Rg.num
  rw [List.take_of_length_le (by simp)]
theorem Rg.byt_wf (n : Int) (i : Nat) : (Lit.int .u8 (Rg.byt n i)).wf = true := by
  simp [Lit.wf, Rg.byt, IntKind.min, IntKind.max, IntKind.bits, IntKind.signed]; omega
theorem Rg.num_len (k : Nat) (n : Int) : (Rg.num k n).length = k := by simp [Rg.num]
theorem Rg.num_wf (k : Nat) (n : Int) : ∀ x ∈ Rg.num k n, (Lit.int .u8 x).wf = true := by
  intro x hx
  obtain ⟨i, _, rfl⟩ := List.mem_map.1 hx
  exact Rg.byt_wf n i
end Go.Proofs.Ytojeendofpallaa
/- Register: numbers in bytes. -/
namespace Go.Proofs.Ytojeendofpallaa
open Go.RowKit
def Rg.nums (k : Nat) (ns : List Int) (j : Nat) : List Int := (ns.take j).flatMap (Rg.num k)
theorem Rg.nums_succ {k j : Nat} {ns : List Int} (hj : j < ns.length) : Rg.nums k ns (j + 1) = Rg.nums k ns j ++ Rg.num k (ns.getD j 0) := by
  unfold Rg.nums
  rw [List.take_succ_eq_append_getElem hj, List.flatMap_append]
  simp [List.getD, hj]
theorem Rg.nums_len {k : Nat} {ns : List Int} : ∀ j, j ≤ ns.length → (Rg.nums k ns j).length = j * k
  | 0, _ => by simp [Rg.nums]
  | j + 1, hj => by rw [Rg.nums_succ (by omega), List.length_append, Rg.nums_len j (by omega), Rg.num_len, Nat.add_mul]; omega
theorem Rg.lit_cell {w : World} {g : Nat} {T : TypeId} {k : IntKind} {ns : List Int} (h : w.heap[g]? = some (.cells (ns.map (Value.int k)).toArray T (0, 0))) {j : Nat} (hj : j < ns.length) : w.cell? ⟨g, j, none⟩ = some (.int k (ns.getD j 0)) := by
  simp [World.cell?, h, List.getD, hj]
/-- a block's contents, through what leaves it alone -/
theorem Rg.lit_alloc {w : World} {g : Nat} {o : Obj} (h : w.heap[g]? = some o) (o' : Obj) : (w.alloc o').heap[g]? = some o := by
  have hlt : g < w.heap.size := (Array.getElem?_eq_some_iff.1 h).1
  show (w.heap.push o')[g]? = some o
  rw [Array.getElem?_push, if_neg (by omega)]
  exact h
def GivesMore (base : Nat) (l : List Int) (w : World) (e : Ending) (w' : World) : Prop := ∃ v, e = .returned v ∧ Own w' base 5 .u8 v l ∧ Below base w w'
set_option maxRecDepth 100000 in
set_option maxHeartbeats 800000 in
theorem numbers38 (base : Nat) (v : Value) (l0 : List Int) (k : Nat) (kz : Int) (hkz : kz = (k : Int)) (g n : Nat) (ns : List Int) (w : World) (ho : Own w base 5 .u8 v l0) (h : w.heap[g]? = some (.cells (ns.map (Value.int .u64)).toArray 58 (0, 0))) (hnl : ns.length = n) (hw : ∀ j, j < n → 0 ≤ ns.getD j 0 ∧ ns.getD j 0 ≤ 18446744073709551615) (hk : 1 ≤ k ∧ k ≤ 8) (hn : n ≤ 10) (hl : l0.length ≤ 100) (hbase : base ≤ w.heap.size) :
    Calls Try.prog 73 #[v, .int .i64 kz, .slice (some ⟨g, 0, none⟩) n n] w (GivesMore base (l0 ++ Rg.nums k ns n) w) := by
  subst hkz
  have H := Lib.hid h
  have HL := Lib.hid hnl
  have HW := Lib.hid hw
  have HO := Lib.hid ho
  have HB := Lib.hid hbase
  have HLL := Lib.hid hl
  clear h ho hbase hl hnl hw
  go_enter Try.func73, Try.ntmps73
  go_wp2_with fail
  go_loopw [0, 12] (fun q i wr => ∃ j : Nat, j ≤ n ∧ i = .int .i64 j ∧ Hid (Own wr base 5 .u8 q (l0 ++ Rg.nums k ns j) ∧ Below base w wr ∧ wr.heap[g]? = some (.cells (ns.map (Value.int .u64)).toArray 58 (0, 0)))) (fun _ i _ => n - (intOf i).toNat)
  case atStart => exact ⟨0, by omega, rfl, by simpa [Rg.nums] using HO.out, Below.refl _ _, H.out⟩
  case round =>
    rename World => Y
    obtain ⟨j, hj, rfl, HI⟩ := hrel
    by_cases hlt : j < n
    · obtain ⟨x, hxe⟩ : ∃ x, ns.getD j 0 = x := ⟨_, rfl⟩
      have hx : Y.cell? ⟨g, j, none⟩ = some (.int .u64 x) := by rw [← hxe]; exact Rg.lit_cell HI.out.2.2 (by rw [HL.out]; exact hlt)
      have hxb := HW.out j hlt
      rw [hxe] at hxb
      have HX := Lib.hid hxe
      clear hxe
      have HE := Lib.hid (show (l0 ++ Rg.nums k ns j) ++ Rg.num k x = l0 ++ Rg.nums k ns (j + 1) by rw [Rg.nums_succ (by rw [HL.out]; exact hlt), HX.out, List.append_assoc])
      have HQ := Lib.hid (show (l0 ++ Rg.nums k ns j).length ≤ 200 by
        have h1 := Rg.nums_len (k := k) (ns := ns) j (by rw [HL.out]; omega)
        have h2 : j * k ≤ 10 * 8 := Nat.mul_le_mul (by omega) hk.2
        have h3 := HLL.out
        rw [List.length_append, h1]; omega)
      generalize l0 ++ Rg.nums k ns j = L at *
      go_wp2_with fail
      go_loopw [0, 9] (fun q i wr => ∃ (t z : Nat) (y : Int), t + z = k ∧ y + 1 = z ∧ i = .int .i64 y ∧ Hid (Own wr base 5 .u8 q (L ++ Rg.numUp k x t) ∧ Below base w wr ∧ wr.heap[g]? = some (.cells (ns.map (Value.int .u64)).toArray 58 (0, 0)))) (fun _ i _ => (intOf i + 1).toNat)
      case atStart => exact ⟨0, k, _, by omega, by omega, rfl, by simpa [Rg.numUp] using HI.out.1, HI.out.2⟩
      case round =>
        rename World => Z
        obtain ⟨t, z, y, htz, hyz, rfl, HJ⟩ := hrel
        by_cases hz : z = 0
        · subst hz
          obtain rfl : y = -1 := by omega
          obtain rfl : t = k := by omega
          go_wp2_with fail
          go_roundw
          case rel => exact ⟨j + 1, by omega, by go_num, by rw [← HE.out, ← Rg.numUp_all]; exact HJ.out.1, HJ.out.2⟩
          case measure => simp [intOf]; omega
        · obtain ⟨i, rfl⟩ : ∃ i : Nat, y = (i : Int) := Int.eq_ofNat_of_zero_le (by omega)
          have hi : i ≤ 7 := by omega
          have HU := Lib.hid (show (L ++ Rg.numUp k x t) ++ [Rg.byt x i] = L ++ Rg.numUp k x (t + 1) by rw [Rg.numUp_succ (by omega), show k - 1 - t = i by omega, List.append_assoc])
          have HV := Lib.hid (show (L ++ Rg.numUp k x t).length ≤ 300 by
            have h3 := HQ.out
            rw [List.length_append, Rg.numUp_len (by omega)]; omega)
          go_wp2_with (at_builtin; refine app_int _ rfl (.tmp 22) (.tmp 28) _ rfl base 5 1 .u8 byte_info28 Try.underlying28 _ _ rfl (HJ.out.1.alloc _) (Rg.byt x i) Z.heap.size rfl (by simp [go_sem, Rg.byt]) (by have := HV.out; simp only [maxLen]; omega) (by have := HV.out; omega) (by have := HJ.out.2.1.size; have := HB.out; simp; omega) ?_; intro v' w' hown' hgrow)
          have hb2 : Below base w w' := (HJ.out.1.alloc _).grow (HJ.out.2.1.alloc (Nat.le_trans HB.out HJ.out.2.1.size) _) hgrow (by have := HJ.out.2.1.size; have := HB.out; simp; omega) (Nat.le_refl _)
          have hk2 := (HJ.out.1.alloc _).blk hgrow (Rg.lit_alloc HJ.out.2.2 _) (by decide)
          go_roundw
          case rel => exact ⟨t + 1, i, (i : Int) - 1, by omega, by omega, by go_num, by rw [← HU.out]; exact hown', hb2, hk2⟩
          case measure => simp [intOf]
    · obtain rfl : n = j := by omega
      go_wp2_with fail
      go_ret
      exact ⟨_, rfl, HI.out.1, HI.out.2.1⟩
end Go.Proofs.Ytojeendofpallaa
/- Register: the link of an entry, both. -/
namespace Go.Proofs.Ytojeendofpallaa
open Go.RowKit
structure Rg.En where
  num : Int
  bef : Int
  kind : Int
  of : Int
  out : Int
  txt : ByteArray
  link : Int
def Rg.En.cells (x : Rg.En) : List Value := [.int .i64 x.num, .int .u64 x.bef, .int .i64 x.kind, .int .i64 x.of, .int .i64 x.out, .string x.txt, .int .u64 x.link]
def Rg.str (s : ByteArray) : List Int := s.data.toList.map fun b => (b.toNat : Int)
theorem Rg.str_len (s : ByteArray) : (Rg.str s).length = s.size := by
  unfold Rg.str
  rw [List.length_map]
  rfl
theorem Rg.str_wf (s : ByteArray) : ∀ x ∈ Rg.str s, (Lit.int .u8 x).wf = true := by
  intro x hx
  obtain ⟨b, _, rfl⟩ := List.mem_map.1 hx
  have := b.toNat_lt
  simp [Lit.wf, IntKind.min, IntKind.max, IntKind.bits, IntKind.signed]; omega
/-- the bytes that a link is the sum of -/
def Rg.bytes (num bef kind of out : Int) (txt : ByteArray) : List Int := Rg.num 8 bef ++ (Rg.num 5 num ++ Rg.num 5 kind ++ Rg.num 5 of ++ Rg.num 5 out) ++ Rg.str txt
def Rg.lnk (num bef kind of out : Int) (txt : ByteArray) : Int := Rg.fnv (Rg.bytes num bef kind of out txt)
/-- an entry whose numbers are small -/
structure Rg.Small (x : Rg.En) : Prop where
  num : 0 ≤ x.num ∧ x.num ≤ 1000
  kind : 0 ≤ x.kind ∧ x.kind ≤ 1000
  of : 0 ≤ x.of ∧ x.of ≤ 1000
  out : 0 ≤ x.out ∧ x.out ≤ 1000
  txt : x.txt.size ≤ 100000
  bef : 0 ≤ x.bef ∧ x.bef ≤ 18446744073709551615
section
variable {P : Program} (w : World)
theorem app_str {ops : Array Oper} {rest : List Oper} {o : Oper} {a : Act} {Q : Exit → Act → World → Prop} (hgd : o.guard = none) (sl x : Operand) (t u : TypeId)
    (ho : o.op = .call { callee := .builtin .append, args := #[sl, x], argTypes := #[t, u] })
    (base : Nat) (e : TypeId) (hinfo : (P.info? e).map (fun i => (i.zero, i.size, i.bytes)) = some (some (.int .u8 0), 1, 1)) (ht : P.underlying t = some (.slice e)) (hu : P.underlying u = some .string)
    (v : Value) (l : List Int) (hs : a.eval sl = v) (hown : Own w base e .u8 v l) (s : ByteArray) (hx : a.eval x = .string s)
    (h63 : l.length + s.size ≤ 1000000) (hbase : base ≤ w.heap.size)
    (h : ∀ v' w', Own w' base e .u8 v' (l ++ Rg.str s) → w.grownBy w' v.ownBlock → wpList P ops Q rest (a.put o.dst v') w') : wpList P ops Q (o :: rest) a w := by
  obtain ⟨i, hi, hz, hz1, hz2⟩ := info_parts hinfo
  refine Go.Lib.wpList_append_own_string (w := w) hgd sl x t u ho base e i ht hu hi hz hz1 hz2 v l.length (l.map (.int .u8)) hs hown s hx (by simp only [maxLen]; omega) (by omega) hbase ?_
  intro v' w' h1 h2 _
  refine h v' w' ?_ h2
  unfold Own
  rw [List.length_append, Rg.str_len, List.map_append]
  have e : (Rg.str s).map (Value.int .u8) = Go.Lib.strCells s := by simp [Rg.str, Go.Lib.strCells]
  rw [e]
  exact h1
end
set_option maxRecDepth 100000 in
set_option maxHeartbeats 800000 in
theorem link38 (num bef kind of out link : Int) (txt : ByteArray) (w : World) (h : Rg.Small ⟨num, bef, kind, of, out, txt, link⟩) :
    Calls Try.prog 43 #[.agg #[.int .i64 num, .int .u64 bef, .int .i64 kind, .int .i64 of, .int .i64 out, .string txt, .int .u64 link]] w fun e w' => e = .returned (.int .u64 (Rg.lnk num bef kind of out txt)) ∧ Below w.heap.size w w' := by
  obtain ⟨h1, h2, h3, h4, h5, h6⟩ := h
  simp only at h1 h2 h3 h4 h5 h6
  have H := Lib.hid (And.intro h1 (And.intro h2 (And.intro h3 (And.intro h4 (And.intro h5 h6)))))
  have e1 : IntKind.u64.wrap num = num := by simp [IntKind.wrap, IntKind.bits, IntKind.signed]; omega
  have e2 : IntKind.u64.wrap kind = kind := by simp [IntKind.wrap, IntKind.bits, IntKind.signed]; omega
  have e3 : IntKind.u64.wrap of = of := by simp [IntKind.wrap, IntKind.bits, IntKind.signed]; omega
  have e4 : IntKind.u64.wrap out = out := by simp [IntKind.wrap, IntKind.bits, IntKind.signed]; omega
  obtain ⟨W, hW⟩ : ∃ W : World, (w.alloc (.cells #[.int .i64 num, .int .u64 bef, .int .i64 kind, .int .i64 of, .int .i64 out, .string txt, .int .u64 link] 60)).alloc (.cells #[.int .u64 bef] 58) = W := ⟨_, rfl⟩
  have hb : Below w.heap.size w W := by rw [← hW]; exact ((Below.refl _ _).alloc (Nat.le_refl _) _).alloc (by simp) _
  have hsz : W.heap.size = w.heap.size + 2 := by rw [← hW]; simp
  have hl1 : W.heap[w.heap.size + 1]? = some (.cells #[.int .u64 bef] 58 (0, 0)) := by
    rw [← hW, show w.heap.size + 1 = (w.alloc (.cells #[.int .i64 num, .int .u64 bef, .int .i64 kind, .int .i64 of, .int .i64 out, .string txt, .int .u64 link] 60)).heap.size from by simp]
    exact heap_alloc_new _ _
  have k0 : W.cell? ⟨w.heap.size, 0, none⟩ = some (.int .i64 num) := by rw [← hW]; simp [go_sem]
  have k2 : W.cell? ⟨w.heap.size, 2, none⟩ = some (.int .i64 kind) := by rw [← hW]; simp [go_sem]
  have k3 : W.cell? ⟨w.heap.size, 3, none⟩ = some (.int .i64 of) := by rw [← hW]; simp [go_sem]
  have k4 : W.cell? ⟨w.heap.size, 4, none⟩ = some (.int .i64 out) := by rw [← hW]; simp [go_sem]
  have k5 : W.cell? ⟨w.heap.size, 5, none⟩ = some (.string txt) := by rw [← hW]; simp [go_sem]
  have HL1 := Lib.hid hl1
  have HB := Lib.hid hb
  have HZ := Lib.hid hsz
  clear hl1 hb hsz h1 h2 h3 h4 h5 h6
  go_enter Try.func43, Try.ntmps43
  go_wp2_with fail
  clear hW
  refine (numbers38 W.heap.size _ [] 8 8 rfl _ 1 [bef] W (Own.nil _ _ _ _) HL1.out rfl (fun j hj => by rcases (show j = 0 by omega) with rfl; exact H.out.2.2.2.2.2) ⟨by omega, by omega⟩ (by omega) (by simp) (Nat.le_refl _)).mono ?_; rintro e w3 ⟨v3, rfl, ho3, hb3⟩
  have hlt : w.heap.size < W.heap.size := by rw [HZ.out]; omega
  replace k0 := (hb3.cell hlt).trans k0
  replace k2 := (hb3.cell hlt).trans k2
  replace k3 := (hb3.cell hlt).trans k3
  replace k4 := (hb3.cell hlt).trans k4
  replace k5 := (hb3.cell hlt).trans k5
  have HO3 := Lib.hid ho3
  obtain ⟨X, hX⟩ : ∃ X : World, w3.alloc (.cells #[.int .u64 num, .int .u64 kind, .int .u64 of, .int .u64 out] 58) = X := ⟨_, rfl⟩
  have hbx : Below W.heap.size w3 X := by rw [← hX]; exact (Below.refl _ _).alloc hb3.size _
  have hoX : Own X W.heap.size 5 .u8 v3 ([] ++ Rg.nums 8 [bef] 1) := by rw [← hX]; exact ho3.alloc _
  have hlx : X.heap[w3.heap.size]? = some (.cells #[.int .u64 num, .int .u64 kind, .int .u64 of, .int .u64 out] 58 (0, 0)) := by rw [← hX]; exact heap_alloc_new _ _
  have HBX := Lib.hid (hb3.trans hbx)
  have HOX := Lib.hid hoX
  have HLX := Lib.hid hlx
  clear ho3 hoX hlx hb3
  go_wp2_with fail
  clear hX
  refine (numbers38 W.heap.size _ _ 5 5 rfl _ 4 [num, kind, of, out] X HOX.out HLX.out rfl (fun j hj => by
    have h := H.out
    rcases (show j = 0 ∨ j = 1 ∨ j = 2 ∨ j = 3 by omega) with rfl | rfl | rfl | rfl <;> simp <;> omega) ⟨by omega, by omega⟩ (by omega) (by simp [Rg.nums, Rg.num]) HBX.out.size).mono ?_; rintro e w4 ⟨v4, rfl, ho4, hb4⟩
  have hb34 := HBX.out.trans hb4
  have k5 := (hb4.cell hlt).trans ((hbx.cell hlt).trans k5)
  have hall : (([] ++ Rg.nums 8 [bef] 1) ++ Rg.nums 5 [num, kind, of, out] 4) ++ Rg.str txt = Rg.bytes num bef kind of out txt := by simp [Rg.nums, Rg.bytes]
  have hlen : (([] ++ Rg.nums 8 [bef] 1) ++ Rg.nums 5 [num, kind, of, out] 4).length ≤ 100 := by simp [Rg.nums, Rg.num_len]
  have HALL := Lib.hid hall
  have HLEN := Lib.hid hlen
  generalize ([] ++ Rg.nums 8 [bef] 1) ++ Rg.nums 5 [num, kind, of, out] 4 = L4 at *
  have HO4 := Lib.hid ho4
  have HB4 := Lib.hid hb34
  clear ho4 hb34 hb4 hbx hall hlen k0 k2 k3 k4 HO3
  go_wp2_with (at_builtin; refine app_str _ rfl (.tmp 23) (.tmp 25) _ _ rfl W.heap.size 5 byte_info28 Try.underlying28 Try.underlying9 _ _ rfl HO4.out txt rfl (by have := HLEN.out; have := H.out; omega) HB4.out.size ?_; intro v' w' hown' hgrow)
  have hb5 := HO4.out.grow HB4.out hgrow HB4.out.size (Nat.le_refl _)
  rw [HALL.out] at hown'
  have hwf : ∀ x ∈ Rg.bytes num bef kind of out txt, (Lit.int .u8 x).wf = true := by
    intro x hx
    simp only [Rg.bytes, List.mem_append] at hx
    rcases hx with (h | ((h | h) | h) | h) | h
    · exact Rg.num_wf _ _ x h
    · exact Rg.num_wf _ _ x h
    · exact Rg.num_wf _ _ x h
    · exact Rg.num_wf _ _ x h
    · exact Rg.num_wf _ _ x h
    · exact Rg.str_wf _ x h
  obtain ⟨A5, c5, rfl, hn5⟩ := hown'.nums hwf
  refine (sum38 _ _ _ _ _ _ hn5).mono ?_; rintro e w6 ⟨rfl, rfl⟩
  clear hwf hown' hgrow hn5
  go_wp2_with fail
  go_ret
  exact ⟨rfl, HB.out.trans (hb5.mono HB.out.size)⟩
end Go.Proofs.Ytojeendofpallaa
/- Register: the reference's link of an entry. -/
namespace Go.Proofs.Ytojeendofpallaa
open Go.RowKit
theorem Rg.bytes_wf (num bef kind of out : Int) (txt : ByteArray) : ∀ x ∈ Rg.bytes num bef kind of out txt, (Lit.int .u8 x).wf = true := by
  intro x hx
  simp only [Rg.bytes, List.mem_append] at hx
  rcases hx with (h | ((h | h) | h) | h) | h
  · exact Rg.num_wf _ _ x h
  · exact Rg.num_wf _ _ x h
  · exact Rg.num_wf _ _ x h
  · exact Rg.num_wf _ _ x h
  · exact Rg.num_wf _ _ x h
  · exact Rg.str_wf _ x h
set_option maxRecDepth 100000 in
set_option maxHeartbeats 1600000 in
theorem rlink38 (num bef kind of out link : Int) (txt : ByteArray) (w : World) (h : Rg.Small ⟨num, bef, kind, of, out, txt, link⟩) :
    Calls Try.prog 40 #[.agg #[.int .i64 num, .int .u64 bef, .int .i64 kind, .int .i64 of, .int .i64 out, .string txt, .int .u64 link]] w fun e w' => e = .returned (.int .u64 (Rg.lnk num bef kind of out txt)) ∧ Below w.heap.size w w' := by
  obtain ⟨h1, h2, h3, h4, h5, h6⟩ := h
  simp only at h1 h2 h3 h4 h5 h6
  have H := Lib.hid (And.intro h1 (And.intro h2 (And.intro h3 (And.intro h4 (And.intro h5 h6)))))
  obtain ⟨W, hW⟩ : ∃ W : World, w.alloc (.cells #[.int .i64 num, .int .u64 bef, .int .i64 kind, .int .i64 of, .int .i64 out, .string txt, .int .u64 link] 60) = W := ⟨_, rfl⟩
  have hb : Below w.heap.size w W := by rw [← hW]; exact (Below.refl _ _).alloc (Nat.le_refl _) _
  have hsz : W.heap.size = w.heap.size + 1 := by rw [← hW]; simp
  have k0 : W.cell? ⟨w.heap.size, 0, none⟩ = some (.int .i64 num) := by rw [← hW]; simp [go_sem]
  have k1 : W.cell? ⟨w.heap.size, 1, none⟩ = some (.int .u64 bef) := by rw [← hW]; simp [go_sem]
  have k2 : W.cell? ⟨w.heap.size, 2, none⟩ = some (.int .i64 kind) := by rw [← hW]; simp [go_sem]
  have k3 : W.cell? ⟨w.heap.size, 3, none⟩ = some (.int .i64 of) := by rw [← hW]; simp [go_sem]
  have k4 : W.cell? ⟨w.heap.size, 4, none⟩ = some (.int .i64 out) := by rw [← hW]; simp [go_sem]
  have k5 : W.cell? ⟨w.heap.size, 5, none⟩ = some (.string txt) := by rw [← hW]; simp [go_sem]
  have hlt : w.heap.size < W.heap.size := by omega
  have HB := Lib.hid hb
  have HK := Lib.hid (And.intro k0 (And.intro k1 (And.intro k2 (And.intro k3 (And.intro k4 k5)))))
  clear hb hsz h1 h2 h3 h4 h5 k0 k1 k2 k3 k4 k5
  go_enter Try.func40, Try.ntmps40
  go_wp2_with fail
  clear hW
  go_loopw [3, 4] (fun q i wr => ∃ (t z : Nat) (y : Int), t + z = 8 ∧ y + 1 = z ∧ i = .int .i64 y ∧ Hid (Own wr W.heap.size 5 .u8 q (Rg.numUp 8 bef t) ∧ Below W.heap.size W wr)) (fun _ i _ => (intOf i + 1).toNat)
  case atStart => exact ⟨0, 8, 7, rfl, rfl, rfl, by simpa [Rg.numUp] using Own.nil _ _ _ _, Below.refl _ _⟩
  case round =>
    rename World => Z
    obtain ⟨t, z, y, htz, hyz, rfl, HJ⟩ := hrel
    by_cases hz : z = 0
    · subst hz
      obtain rfl : y = -1 := by omega
      obtain rfl : t = 8 := by omega
      have k0 := (HJ.out.2.cell hlt).trans HK.out.1
      have k2 := (HJ.out.2.cell hlt).trans HK.out.2.2.1
      have k3 := (HJ.out.2.cell hlt).trans HK.out.2.2.2.1
      have k4 := (HJ.out.2.cell hlt).trans HK.out.2.2.2.2.1
      obtain ⟨X, hX⟩ : ∃ X : World, Z.alloc (.cells #[.int .i64 num, .int .i64 kind, .int .i64 of, .int .i64 out] 3) = X := ⟨_, rfl⟩
      have hbx : Below W.heap.size W X := by rw [← hX]; exact HJ.out.2.alloc HJ.out.2.size _
      have hox : ∀ q l, Own Z W.heap.size 5 .u8 q l → Own X W.heap.size 5 .u8 q l := fun q l h => by rw [← hX]; exact h.alloc _
      have hlx : X.heap[Z.heap.size]? = some (.cells ([num, kind, of, out].map (Value.int .i64)).toArray 3 (0, 0)) := by rw [← hX]; exact heap_alloc_new _ _
      have HOX := Lib.hid (hox _ _ HJ.out.1)
      have HBX := Lib.hid hbx
      have HLX := Lib.hid hlx
      clear hbx hox hlx h6
      go_wp2_with fail
      clear hX
      go_loopw [3, 31] (fun q i wr => ∃ j : Nat, j ≤ 4 ∧ i = .int .i64 j ∧ Hid (Own wr W.heap.size 5 .u8 q (Rg.numUp 8 bef 8 ++ Rg.nums 5 [num, kind, of, out] j) ∧ Below W.heap.size W wr ∧ wr.heap[Z.heap.size]? = some (.cells ([num, kind, of, out].map (Value.int .i64)).toArray 3 (0, 0)))) (fun _ i _ => 4 - (intOf i).toNat)
      case atStart => exact ⟨0, by omega, rfl, by simpa [Rg.nums] using HOX.out, HBX.out, HLX.out⟩
      case round =>
        rename World => Y
        obtain ⟨j, hj, rfl, HI⟩ := hrel
        by_cases hlt2 : j < 4
        · obtain ⟨x, hxe⟩ : ∃ x, [num, kind, of, out].getD j 0 = x := ⟨_, rfl⟩
          have hx : Y.cell? ⟨Z.heap.size, j, none⟩ = some (.int .i64 x) := by rw [← hxe]; exact Rg.lit_cell HI.out.2.2 hlt2
          have hxb : 0 ≤ x ∧ x ≤ 1000 := by
            have h := H.out
            rw [← hxe]
            rcases (show j = 0 ∨ j = 1 ∨ j = 2 ∨ j = 3 by omega) with rfl | rfl | rfl | rfl <;> simp <;> omega
          have HE := Lib.hid (show (Rg.numUp 8 bef 8 ++ Rg.nums 5 [num, kind, of, out] j) ++ Rg.num 5 x = Rg.numUp 8 bef 8 ++ Rg.nums 5 [num, kind, of, out] (j + 1) by rw [Rg.nums_succ hlt2, hxe, List.append_assoc])
          have HQ := Lib.hid (show (Rg.numUp 8 bef 8 ++ Rg.nums 5 [num, kind, of, out] j).length ≤ 200 by
            have h1 := Rg.nums_len (k := 5) (ns := [num, kind, of, out]) j (by simp; omega)
            rw [List.length_append, h1, Rg.numUp_len (by omega)]; omega)
          generalize Rg.numUp 8 bef 8 ++ Rg.nums 5 [num, kind, of, out] j = L at *
          have g4 : decide ((j : Int) < 4) = true := by simp; omega
          clear hxe
          go_wp2_with fail
          go_loopw [3, 7] (fun q i wr => ∃ (t z : Nat) (y : Int), t + z = 5 ∧ y + 1 = z ∧ i = .int .i64 y ∧ Hid (Own wr W.heap.size 5 .u8 q (L ++ Rg.numUp 5 x t) ∧ Below W.heap.size W wr ∧ wr.heap[Z.heap.size]? = some (.cells ([num, kind, of, out].map (Value.int .i64)).toArray 3 (0, 0)))) (fun _ i _ => (intOf i + 1).toNat)
          case atStart => exact ⟨0, 5, 4, rfl, rfl, rfl, by simpa [Rg.numUp] using HI.out.1, HI.out.2⟩
          case round =>
            rename World => V
            obtain ⟨t, z, y, htz, hyz, rfl, HJ⟩ := hrel
            by_cases hz : z = 0
            · subst hz
              obtain rfl : y = -1 := by omega
              obtain rfl : t = 5 := by omega
              go_wp2_with fail
              go_roundw
              case rel => exact ⟨j + 1, by omega, by go_num, by rw [← HE.out, ← Rg.numUp_all]; exact HJ.out.1, HJ.out.2⟩
              case measure => simp [intOf]; omega
            · obtain ⟨i, rfl⟩ : ∃ i : Nat, y = (i : Int) := Int.eq_ofNat_of_zero_le (by omega)
              have hi : i ≤ 4 := by omega
              have HU := Lib.hid (show (L ++ Rg.numUp 5 x t) ++ [Rg.byt x i] = L ++ Rg.numUp 5 x (t + 1) by rw [Rg.numUp_succ (by omega), show 5 - 1 - t = i by omega, List.append_assoc])
              have HV := Lib.hid (show (L ++ Rg.numUp 5 x t).length ≤ 300 by
                have h3 := HQ.out
                rw [List.length_append, Rg.numUp_len (by omega)]; omega)
              go_wp2_with (at_builtin; refine app_int _ rfl (.tmp 39) (.tmp 45) _ rfl W.heap.size 5 1 .u8 byte_info28 Try.underlying28 _ _ rfl (HJ.out.1.alloc _) (Rg.byt x i) V.heap.size rfl (by simp [go_sem, Rg.byt]) (by have := HV.out; simp only [maxLen]; omega) (by have := HV.out; omega) (by have := HJ.out.2.1.size; simp; omega) ?_; intro v' w' hown' hgrow)
              have hb2 : Below W.heap.size W w' := (HJ.out.1.alloc _).grow (HJ.out.2.1.alloc HJ.out.2.1.size _) hgrow (by have := HJ.out.2.1.size; simp; omega) (Nat.le_refl _)
              have hk2 := (HJ.out.1.alloc _).blk hgrow (Rg.lit_alloc HJ.out.2.2 _) (by decide)
              go_roundw
              case rel => exact ⟨t + 1, i, (i : Int) - 1, by omega, by omega, by go_num, by rw [← HU.out]; exact hown', hb2, hk2⟩
              case measure => simp [intOf]
        · obtain rfl : j = 4 := by omega
          have k5 := (HI.out.2.1.cell hlt).trans HK.out.2.2.2.2.2
          have hall : (Rg.numUp 8 bef 8 ++ Rg.nums 5 [num, kind, of, out] 4) ++ Rg.str txt = Rg.bytes num bef kind of out txt := by simp [Rg.nums, Rg.bytes, Rg.numUp_all]
          have hlen : (Rg.numUp 8 bef 8 ++ Rg.nums 5 [num, kind, of, out] 4).length ≤ 100 := by simp [Rg.nums, Rg.num_len, Rg.numUp_all]
          have HALL := Lib.hid hall
          have HLEN := Lib.hid hlen
          generalize Rg.numUp 8 bef 8 ++ Rg.nums 5 [num, kind, of, out] 4 = L4 at *
          clear hall hlen
          go_wp2_with (at_builtin; refine app_str _ rfl (.tmp 48) (.tmp 50) _ _ rfl W.heap.size 5 byte_info28 Try.underlying28 Try.underlying9 _ _ rfl HI.out.1 txt rfl (by have := HLEN.out; have := H.out; omega) HI.out.2.1.size ?_; intro v' w' hown' hgrow)
          have hb5 := HI.out.1.grow HI.out.2.1 hgrow HI.out.2.1.size (Nat.le_refl _)
          rw [HALL.out] at hown'
          have hwf : ∀ x ∈ Rg.bytes num bef kind of out txt, (Lit.int .u8 x).wf = true := Rg.bytes_wf _ _ _ _ _ _
          obtain ⟨A5, c5, rfl, hn5⟩ := hown'.nums hwf
          refine (rsum38 _ _ _ _ _ _ hn5).mono ?_; rintro e w6 ⟨rfl, rfl⟩
          clear hwf hown' hgrow hn5
          go_wp2_with fail
          go_ret
          exact ⟨rfl, HB.out.trans (hb5.mono HB.out.size)⟩
    · obtain ⟨i, rfl⟩ : ∃ i : Nat, y = (i : Int) := Int.eq_ofNat_of_zero_le (by omega)
      have hi : i ≤ 7 := by omega
      have HU := Lib.hid (show Rg.numUp 8 bef t ++ [Rg.byt bef i] = Rg.numUp 8 bef (t + 1) by rw [Rg.numUp_succ (by omega), show 8 - 1 - t = i by omega])
      have HV := Lib.hid (show (Rg.numUp 8 bef t).length ≤ 300 by rw [Rg.numUp_len (by omega)]; omega)
      have k1 := (HJ.out.2.cell hlt).trans HK.out.2.1
      go_wp2_with (at_builtin; refine app_int _ rfl (.tmp 12) (.tmp 19) _ rfl W.heap.size 5 1 .u8 byte_info28 Try.underlying28 _ _ rfl (HJ.out.1.alloc _) (Rg.byt bef i) Z.heap.size rfl (by simp [go_sem, Rg.byt]) (by have := HV.out; simp only [maxLen]; omega) (by have := HV.out; omega) (by have := HJ.out.2.size; simp; omega) ?_; intro v' w' hown' hgrow)
      have hb2 : Below W.heap.size W w' := (HJ.out.1.alloc _).grow (HJ.out.2.alloc HJ.out.2.size _) hgrow (by have := HJ.out.2.size; simp; omega) (Nat.le_refl _)
      go_roundw
      case rel => exact ⟨t + 1, i, (i : Int) - 1, by omega, by omega, by go_num, by rw [← HU.out]; exact hown', hb2⟩
      case measure => simp [intOf]
end Go.Proofs.Ytojeendofpallaa
