/- Controlled rounding of three by five numbers: the ways. -/
import Derived.Test.YtgclljmchdlbeaaNb
namespace Go.Proofs.Ytgclljmchdlbeaa
def Nt.rows : List (List Bool) := [[false, false, false, false, false], [true, true, false, false, false], [true, false, true, false, false], [false, true, true, false, false], [true, true, true, false, false], [true, false, false, true, false], [false, true, false, true, false], [true, true, false, true, false], [false, false, true, true, false], [true, false, true, true, false], [false, true, true, true, false], [true, true, true, true, false], [true, false, false, false, true], [false, true, false, false, true], [true, true, false, false, true], [false, false, true, false, true], [true, false, true, false, true], [false, true, true, false, true], [true, true, true, false, true], [false, false, false, true, true], [true, false, false, true, true], [false, true, false, true, true], [true, true, false, true, true], [false, false, true, true, true], [true, false, true, true, true], [false, true, true, true, true], [true, true, true, true, true]]
theorem Nt.row_in : ∀ a b c d e : Bool, ((a.toNat + b.toNat + c.toNat + d.toNat + e.toNat) ≠ 1) → [a, b, c, d, e] ∈ Nt.rows := by decide
def Nt.circs : List (Nat × Nat) := [(99, 65), (165, 129), (297, 257), (561, 513), (198, 130), (330, 258), (594, 514), (396, 260), (660, 516), (792, 520), (3075, 2049), (5125, 4097), (9225, 8193), (17425, 16385), (6150, 4098), (10250, 8194), (18450, 16386), (12300, 8196), (20500, 16388), (24600, 16392), (3168, 2080), (5280, 4128), (9504, 8224), (17952, 16416), (6336, 4160), (10560, 8256), (19008, 16448), (12672, 8320), (21120, 16512), (25344, 16640), (5315, 4161), (3269, 2177), (6307, 4130), (3238, 1154), (6245, 2084), (5222, 1092), (9539, 8257), (3401, 2305), (10531, 8226), (3370, 1282), (10345, 2088), (9322, 1096), (17987, 16449), (3665, 2561), (18979, 16418), (3634, 1538), (18545, 2096), (17522, 1104), (9605, 8321), (5513, 4353), (12581, 8228), (5420, 1284), (12457, 4136), (9388, 1160), (18053, 16513), (5777, 4609), (21029, 16420), (5684, 1540), (20657, 4144), (17588, 1168), (18185, 16641), (10001, 8705), (25129, 16424), (9784, 1544), (24881, 8240), (17720, 1296), (10630, 8322), (6538, 4354), (12614, 8260), (6476, 2308), (12490, 4168), (10444, 2184), (19078, 16514), (6802, 4610), (21062, 16452), (6740, 2564), (20690, 4176), (18644, 2192), (19210, 16642), (11026, 8706), (25162, 16456), (10840, 2568), (24914, 8272), (18776, 2320), (21260, 16644), (13076, 8708), (25228, 16520), (12952, 4616), (24980, 8336), (20888, 4368)]
def Nt.one (a b c : Bool) : Bool := (a.toNat + b.toNat + c.toNat) == 1
def Nt.col : List Bool → List Bool → List Bool → Bool
  | a :: p, b :: q, c :: r => Nt.one a b c || Nt.col p q r
  | _, _, _ => false
def Nt.okN (m : Nat) : Bool := m == 0 || Nt.circs.any (fun c => m &&& c.1 == c.1)
def Nt.okM (r0 r1 r2 : List Bool) : Bool := Nt.col r0 r1 r2 || Nt.okN (Nd.bits (r0 ++ r1 ++ r2))
set_option maxRecDepth 100000 in
theorem Nt.all : (Nt.rows.all fun r0 => Nt.rows.all fun r1 => Nt.rows.all fun r2 => Nt.okM r0 r1 r2) = true := by decide +kernel
def Nt.zeroB (c : Nat × Nat) : Bool := ((List.range 3).all fun i => decide (Nd.sg c (5 * i) + Nd.sg c (5 * i + 1) + Nd.sg c (5 * i + 2) + Nd.sg c (5 * i + 3) + Nd.sg c (5 * i + 4) = 0)) && ((List.range 5).all fun i => decide (Nd.sg c i + Nd.sg c (i + 5) + Nd.sg c (i + 10) = 0)) && (List.range 15).any fun k => c.1.testBit k
set_option maxRecDepth 100000 in
theorem Nt.zero : Nt.circs.all Nt.zeroB = true := by decide +kernel
end Go.Proofs.Ytgclljmchdlbeaa
