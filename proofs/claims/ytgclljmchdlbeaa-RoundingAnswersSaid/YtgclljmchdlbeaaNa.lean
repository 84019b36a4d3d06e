/- Controlled rounding: in a square table of four by four numbers whose rows and columns have the sum 0, all numbers can be rounded to multiples so that they keep it. -/
import GoSem.Core.Value
namespace Go.Proofs.Ytgclljmchdlbeaa
/-- the places of a row that are not multiples: never a single one -/
def Nd.rows : List (List Bool) := [[false, false, false, false], [true, true, false, false], [true, false, true, false], [true, false, false, true], [false, true, true, false], [false, true, false, true], [false, false, true, true], [true, true, true, false], [true, true, false, true], [true, false, true, true], [false, true, true, true], [true, true, true, true]]
theorem Nd.row_in : ∀ a b c d : Bool, ((a.toNat + b.toNat + c.toNat + d.toNat) ≠ 1) → [a, b, c, d] ∈ Nd.rows := by decide
/-- round ways through places: the places, and those with the sign 1, as bits -/
def Nd.circs : List (Nat × Nat) := [(51, 33), (85, 65), (153, 129), (102, 66), (170, 130), (204, 132), (771, 513), (1285, 1025), (2313, 2049), (1542, 1026), (2570, 2050), (3084, 2052), (12291, 8193), (20485, 16385), (36873, 32769), (24582, 16386), (40970, 32770), (49164, 32772), (816, 528), (1360, 1040), (2448, 2064), (1632, 1056), (2720, 2080), (3264, 2112), (12336, 8208), (20560, 16400), (37008, 32784), (24672, 16416), (41120, 32800), (49344, 32832), (13056, 8448), (21760, 16640), (39168, 33024), (26112, 16896), (43520, 33280), (52224, 33792), (1379, 1057), (869, 577), (1619, 1042), (854, 322), (1589, 532), (1334, 292), (2467, 2081), (937, 641), (2707, 2066), (922, 386), (2617, 536), (2362, 296), (2501, 2113), (1481, 1153), (3221, 2068), (1436, 388), (3161, 1048), (2396, 328), (2758, 2114), (1738, 1154), (3238, 2084), (1708, 644), (3178, 1064), (2668, 584), (20579, 16417), (12389, 8257), (24659, 16402), (12374, 4162), (24629, 8212), (20534, 4132), (37027, 32801), (12457, 8321), (41107, 32786), (12442, 4226), (41017, 8216), (36922, 4136), (37061, 32833), (20681, 16513), (49301, 32788), (20636, 4228), (49241, 16408), (36956, 4168), (41158, 32834), (24778, 16514), (49318, 32804), (24748, 8324), (49258, 16424), (41068, 8264), (22019, 16897), (13829, 9217), (25859, 16642), (13574, 5122), (25349, 8452), (21254, 4612), (39427, 33281), (14857, 10241), (43267, 33026), (14602, 6146), (41737, 8456), (37642, 4616), (39941, 33793), (23561, 18433), (51461, 33028), (22796, 6148), (50441, 16648), (38156, 5128), (44038, 33794), (27658, 18434), (51718, 33284), (27148, 10244), (50698, 16904), (42508, 9224), (22064, 16912), (13904, 9232), (25904, 16672), (13664, 5152), (25424, 8512), (21344, 4672), (39472, 33296), (14992, 10256), (43312, 33056), (14752, 6176), (41872, 8576), (37792, 4736), (40016, 33808), (23696, 18448), (51536, 33088), (22976, 6208), (50576, 16768), (38336, 5248), (44128, 33824), (27808, 18464), (51808, 33344), (27328, 10304), (50848, 17024), (42688, 9344), (40035, 33825), (51555, 18465), (38595, 33345), (50835, 17025), (27075, 10305), (27795, 9345), (23715, 18465), (50595, 33825), (23235, 17025), (51795, 33345), (42435, 9345), (44115, 10305), (39525, 33345), (43365, 10305), (38565, 33825), (42645, 9345), (27045, 18465), (27285, 17025), (15045, 10305), (41925, 33345), (15525, 9345), (44085, 33825), (50085, 17025), (51765, 18465), (22185, 17025), (26025, 9345), (23145, 18465), (27225, 10305), (42345, 33825), (42585, 33345), (14025, 9345), (25545, 17025), (15465, 10305), (27705, 18465), (50025, 33345), (50745, 33825), (43350, 33090), (39510, 6210), (42390, 33810), (38310, 5250), (23190, 18450), (22950, 16770), (14790, 6210), (37830, 33090), (15510, 5250), (39990, 33810), (50070, 16770), (51510, 18450), (26010, 16770), (22170, 5250), (26970, 18450), (22890, 6210), (38490, 33810), (38250, 33090), (13770, 5250), (21450, 16770), (15450, 6210), (23610, 18450), (50010, 33090), (50490, 33810), (25500, 8580), (13980, 4740), (26940, 10260), (14700, 6180), (38460, 33300), (37740, 33060), (21420, 4740), (13740, 8580), (23100, 6180), (14940, 10260), (42300, 33060), (41820, 33300)]
def Nd.bits : List Bool → Nat
  | [] => 0
  | b :: l => b.toNat + 2 * Nd.bits l
theorem Nd.bits_test : ∀ (l : List Bool) (k : Nat), (Nd.bits l).testBit k = l.getD k false
  | [], k => by simp [Nd.bits]
  | b :: l, 0 => by
    cases b <;> simp [Nd.bits, Nat.testBit_zero] <;> omega
  | b :: l, k + 1 => by
    have h := Nd.bits_test l k
    rw [show Nd.bits (b :: l) = b.toNat + 2 * Nd.bits l from rfl, Nat.testBit_succ, show (b.toNat + 2 * Nd.bits l) / 2 = Nd.bits l by cases b <;> simp <;> omega, h]
    simp
def Nd.one (a b c d : Bool) : Bool := (a.toNat + b.toNat + c.toNat + d.toNat) == 1
def Nd.col : List Bool → List Bool → List Bool → List Bool → Bool
  | a :: p, b :: q, c :: r, d :: s => Nd.one a b c d || Nd.col p q r s
  | _, _, _, _ => false
def Nd.okN (m : Nat) : Bool := m == 0 || Nd.circs.any (fun c => m &&& c.1 == c.1)
def Nd.okM (r0 r1 r2 r3 : List Bool) : Bool := Nd.col r0 r1 r2 r3 || Nd.okN (Nd.bits (r0 ++ r1 ++ r2 ++ r3))
set_option maxRecDepth 100000 in
theorem Nd.all : (Nd.rows.all fun r0 => Nd.rows.all fun r1 => Nd.rows.all fun r2 => Nd.rows.all fun r3 => Nd.okM r0 r1 r2 r3) = true := by decide +kernel
/-- the sign of a place -/
def Nd.sg (c : Nat × Nat) (k : Nat) : Int := if c.1.testBit k then (if c.2.testBit k then 1 else -1) else 0
def Nd.zeroB (c : Nat × Nat) : Bool := ((List.range 4).all fun i => decide (Nd.sg c (4 * i) + Nd.sg c (4 * i + 1) + Nd.sg c (4 * i + 2) + Nd.sg c (4 * i + 3) = 0) && decide (Nd.sg c i + Nd.sg c (i + 4) + Nd.sg c (i + 8) + Nd.sg c (i + 12) = 0)) && (List.range 16).any fun k => c.1.testBit k
set_option maxRecDepth 100000 in
theorem Nd.zero : Nd.circs.all Nd.zeroB = true := by decide +kernel
end Go.Proofs.Ytgclljmchdlbeaa
