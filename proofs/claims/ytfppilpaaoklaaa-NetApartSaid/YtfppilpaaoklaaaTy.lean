/- Closed facts on the types of the program, for the walk over plain values. -/
import Derived.Test.YtfppilpaaoklaaaPw16
import Derived.Test.YtfppilpaaoklaaaProg
namespace Go.Proofs.Ytfppilpaaoklaaa
open Go Go.RowKit
theorem isAgg2 : isAggB Try.prog 2 = some false := by kernel_rfl
theorem tsz2 : (Try.prog.types[2]'(of_decide_eq_true (by kernel_rfl))).size = 1 := by kernel_rfl
theorem size2 : sizeB Try.prog 2 = some 1 := by kernel_rfl
theorem intK2 : intKindB Try.prog 2 = some .i64 := by kernel_rfl
theorem elem2 : elemB Try.prog 2 = none := by kernel_rfl
theorem zero2 : zeroC Try.prog 2 = some [.int .i64 0] := by kernel_rfl
theorem isAgg3 : isAggB Try.prog 3 = some false := by kernel_rfl
theorem tsz3 : (Try.prog.types[3]'(of_decide_eq_true (by kernel_rfl))).size = 1 := by kernel_rfl
theorem size3 : sizeB Try.prog 3 = some 1 := by kernel_rfl
theorem intK3 : intKindB Try.prog 3 = some .i64 := by kernel_rfl
theorem elem3 : elemB Try.prog 3 = none := by kernel_rfl
theorem zero3 : zeroC Try.prog 3 = some [.int .i64 0] := by kernel_rfl
theorem isAgg4 : isAggB Try.prog 4 = some false := by kernel_rfl
theorem tsz4 : (Try.prog.types[4]'(of_decide_eq_true (by kernel_rfl))).size = 1 := by kernel_rfl
theorem size4 : sizeB Try.prog 4 = some 1 := by kernel_rfl
theorem intK4 : intKindB Try.prog 4 = none := by kernel_rfl
theorem elem4 : elemB Try.prog 4 = none := by kernel_rfl
theorem und4 : Try.prog.underlying 4 = some .bool := by kernel_rfl
theorem zero4 : zeroC Try.prog 4 = some [.bool false] := by kernel_rfl
theorem isAgg5 : isAggB Try.prog 5 = some false := by kernel_rfl
theorem tsz5 : (Try.prog.types[5]'(of_decide_eq_true (by kernel_rfl))).size = 1 := by kernel_rfl
theorem size5 : sizeB Try.prog 5 = some 1 := by kernel_rfl
theorem intK5 : intKindB Try.prog 5 = some .u8 := by kernel_rfl
theorem elem5 : elemB Try.prog 5 = none := by kernel_rfl
theorem und5 : Try.prog.underlying 5 = some (.int .u8) := by kernel_rfl
theorem zero5 : zeroC Try.prog 5 = some [.int .u8 0] := by kernel_rfl
theorem isAgg6 : isAggB Try.prog 6 = some false := by kernel_rfl
theorem tsz6 : (Try.prog.types[6]'(of_decide_eq_true (by kernel_rfl))).size = 1 := by kernel_rfl
theorem size6 : sizeB Try.prog 6 = some 1 := by kernel_rfl
theorem intK6 : intKindB Try.prog 6 = some .u8 := by kernel_rfl
theorem elem6 : elemB Try.prog 6 = none := by kernel_rfl
theorem und6 : Try.prog.underlying 6 = some (.int .u8) := by kernel_rfl
theorem zero6 : zeroC Try.prog 6 = some [.int .u8 0] := by kernel_rfl
theorem isAgg7 : isAggB Try.prog 7 = some true := by kernel_rfl
theorem tsz7 : (Try.prog.types[7]'(of_decide_eq_true (by kernel_rfl))).size = 4 := by kernel_rfl
theorem size7 : sizeB Try.prog 7 = some 4 := by kernel_rfl
theorem intK7 : intKindB Try.prog 7 = none := by kernel_rfl
theorem elem7 : elemB Try.prog 7 = none := by kernel_rfl
theorem zero7 : zeroC Try.prog 7 = some [.int .i64 0, .int .i64 0, .bool false, .int .u8 0] := by kernel_rfl
theorem field7_0 : fieldB Try.prog 7 0 = some (0, 2) := by kernel_rfl
theorem field7_1 : fieldB Try.prog 7 1 = some (1, 3) := by kernel_rfl
theorem field7_2 : fieldB Try.prog 7 2 = some (2, 4) := by kernel_rfl
theorem field7_3 : fieldB Try.prog 7 3 = some (3, 6) := by kernel_rfl
theorem places7 : placesOf Try.prog 7 = some (fun i => (#[(0, 1), (1, 1), (2, 1), (3, 1)] : Array (Nat × Nat))[i]?) := by kernel_rfl
theorem isAgg8 : isAggB Try.prog 8 = some true := by kernel_rfl
theorem tsz8 : (Try.prog.types[8]'(of_decide_eq_true (by kernel_rfl))).size = 4 := by kernel_rfl
theorem size8 : sizeB Try.prog 8 = some 4 := by kernel_rfl
theorem intK8 : intKindB Try.prog 8 = none := by kernel_rfl
theorem elem8 : elemB Try.prog 8 = none := by kernel_rfl
theorem zero8 : zeroC Try.prog 8 = some [.int .i64 0, .int .i64 0, .bool false, .int .u8 0] := by kernel_rfl
theorem field8_0 : fieldB Try.prog 8 0 = some (0, 2) := by kernel_rfl
theorem field8_1 : fieldB Try.prog 8 1 = some (1, 3) := by kernel_rfl
theorem field8_2 : fieldB Try.prog 8 2 = some (2, 4) := by kernel_rfl
theorem field8_3 : fieldB Try.prog 8 3 = some (3, 6) := by kernel_rfl
theorem places8 : placesOf Try.prog 8 = some (fun i => (#[(0, 1), (1, 1), (2, 1), (3, 1)] : Array (Nat × Nat))[i]?) := by kernel_rfl
theorem isAgg9 : isAggB Try.prog 9 = some false := by kernel_rfl
theorem tsz9 : (Try.prog.types[9]'(of_decide_eq_true (by kernel_rfl))).size = 1 := by kernel_rfl
theorem size9 : sizeB Try.prog 9 = some 1 := by kernel_rfl
theorem intK9 : intKindB Try.prog 9 = none := by kernel_rfl
theorem elem9 : elemB Try.prog 9 = none := by kernel_rfl
theorem und9 : Try.prog.underlying 9 = some .string := by kernel_rfl
theorem zero9 : zeroC Try.prog 9 = some [.string ByteArray.empty] := by kernel_rfl
theorem isAgg10 : isAggB Try.prog 10 = some false := by kernel_rfl
theorem tsz10 : (Try.prog.types[10]'(of_decide_eq_true (by kernel_rfl))).size = 1 := by kernel_rfl
theorem size10 : sizeB Try.prog 10 = some 1 := by kernel_rfl
theorem intK10 : intKindB Try.prog 10 = none := by kernel_rfl
theorem elem10 : elemB Try.prog 10 = none := by kernel_rfl
theorem und10 : Try.prog.underlying 10 = some .string := by kernel_rfl
theorem zero10 : zeroC Try.prog 10 = some [.string ByteArray.empty] := by kernel_rfl
theorem isAgg11 : isAggB Try.prog 11 = some false := by kernel_rfl
theorem tsz11 : (Try.prog.types[11]'(of_decide_eq_true (by kernel_rfl))).size = 1 := by kernel_rfl
theorem size11 : sizeB Try.prog 11 = some 1 := by kernel_rfl
theorem intK11 : intKindB Try.prog 11 = none := by kernel_rfl
theorem elem11 : elemB Try.prog 11 = none := by kernel_rfl
theorem und11 : Try.prog.underlying 11 = some .string := by kernel_rfl
theorem zero11 : zeroC Try.prog 11 = some [.string ByteArray.empty] := by kernel_rfl
theorem isAgg12 : isAggB Try.prog 12 = some false := by kernel_rfl
theorem tsz12 : (Try.prog.types[12]'(of_decide_eq_true (by kernel_rfl))).size = 1 := by kernel_rfl
theorem size12 : sizeB Try.prog 12 = some 1 := by kernel_rfl
theorem intK12 : intKindB Try.prog 12 = some .u64 := by kernel_rfl
theorem elem12 : elemB Try.prog 12 = none := by kernel_rfl
theorem zero12 : zeroC Try.prog 12 = some [.int .u64 0] := by kernel_rfl
theorem isAgg13 : isAggB Try.prog 13 = some true := by kernel_rfl
theorem tsz13 : (Try.prog.types[13]'(of_decide_eq_true (by kernel_rfl))).size = 2 := by kernel_rfl
theorem size13 : sizeB Try.prog 13 = some 2 := by kernel_rfl
theorem intK13 : intKindB Try.prog 13 = none := by kernel_rfl
theorem elem13 : elemB Try.prog 13 = none := by kernel_rfl
theorem zero13 : zeroC Try.prog 13 = some [.string ByteArray.empty, .int .u64 0] := by kernel_rfl
theorem field13_0 : fieldB Try.prog 13 0 = some (0, 9) := by kernel_rfl
theorem field13_1 : fieldB Try.prog 13 1 = some (1, 12) := by kernel_rfl
theorem places13 : placesOf Try.prog 13 = some (fun i => (#[(0, 1), (1, 1)] : Array (Nat × Nat))[i]?) := by kernel_rfl
theorem isAgg14 : isAggB Try.prog 14 = some true := by kernel_rfl
theorem tsz14 : (Try.prog.types[14]'(of_decide_eq_true (by kernel_rfl))).size = 2 := by kernel_rfl
theorem size14 : sizeB Try.prog 14 = some 2 := by kernel_rfl
theorem intK14 : intKindB Try.prog 14 = none := by kernel_rfl
theorem elem14 : elemB Try.prog 14 = none := by kernel_rfl
theorem zero14 : zeroC Try.prog 14 = some [.string ByteArray.empty, .int .u64 0] := by kernel_rfl
theorem field14_0 : fieldB Try.prog 14 0 = some (0, 9) := by kernel_rfl
theorem field14_1 : fieldB Try.prog 14 1 = some (1, 12) := by kernel_rfl
theorem places14 : placesOf Try.prog 14 = some (fun i => (#[(0, 1), (1, 1)] : Array (Nat × Nat))[i]?) := by kernel_rfl
theorem isAgg18 : isAggB Try.prog 18 = some true := by kernel_rfl
theorem tsz18 : (Try.prog.types[18]'(of_decide_eq_true (by kernel_rfl))).size = 1 := by kernel_rfl
theorem size18 : sizeB Try.prog 18 = some 1 := by kernel_rfl
theorem intK18 : intKindB Try.prog 18 = none := by kernel_rfl
theorem elem18 : elemB Try.prog 18 = none := by kernel_rfl
theorem zero18 : zeroC Try.prog 18 = some [.pointer none] := by kernel_rfl
theorem field18_0 : fieldB Try.prog 18 0 = some (0, 17) := by kernel_rfl
theorem isAgg19 : isAggB Try.prog 19 = some true := by kernel_rfl
theorem tsz19 : (Try.prog.types[19]'(of_decide_eq_true (by kernel_rfl))).size = 1 := by kernel_rfl
theorem size19 : sizeB Try.prog 19 = some 1 := by kernel_rfl
theorem intK19 : intKindB Try.prog 19 = none := by kernel_rfl
theorem elem19 : elemB Try.prog 19 = none := by kernel_rfl
theorem zero19 : zeroC Try.prog 19 = some [.pointer none] := by kernel_rfl
theorem field19_0 : fieldB Try.prog 19 0 = some (0, 17) := by kernel_rfl
theorem isAgg21 : isAggB Try.prog 21 = some false := by kernel_rfl
theorem tsz21 : (Try.prog.types[21]'(of_decide_eq_true (by kernel_rfl))).size = 1 := by kernel_rfl
theorem size21 : sizeB Try.prog 21 = some 1 := by kernel_rfl
theorem intK21 : intKindB Try.prog 21 = some .i32 := by kernel_rfl
theorem elem21 : elemB Try.prog 21 = none := by kernel_rfl
theorem zero21 : zeroC Try.prog 21 = some [.int .i32 0] := by kernel_rfl
theorem isAgg22 : isAggB Try.prog 22 = some false := by kernel_rfl
theorem tsz22 : (Try.prog.types[22]'(of_decide_eq_true (by kernel_rfl))).size = 1 := by kernel_rfl
theorem size22 : sizeB Try.prog 22 = some 1 := by kernel_rfl
theorem intK22 : intKindB Try.prog 22 = none := by kernel_rfl
theorem elem22 : elemB Try.prog 22 = some 37 := by kernel_rfl
theorem zero22 : zeroC Try.prog 22 = some [.slice none 0 0] := by kernel_rfl
theorem elty22 : eltyB Try.prog 22 = some (37, 4, 48, [.int .i64 0, .int .i64 0, .int .i64 0, .slice none 0 0]) := by kernel_rfl
theorem isAgg23 : isAggB Try.prog 23 = some false := by kernel_rfl
theorem tsz23 : (Try.prog.types[23]'(of_decide_eq_true (by kernel_rfl))).size = 1 := by kernel_rfl
theorem size23 : sizeB Try.prog 23 = some 1 := by kernel_rfl
theorem intK23 : intKindB Try.prog 23 = none := by kernel_rfl
theorem elem23 : elemB Try.prog 23 = some 3 := by kernel_rfl
theorem zero23 : zeroC Try.prog 23 = some [.slice none 0 0] := by kernel_rfl
theorem elty23 : eltyB Try.prog 23 = some (3, 1, 8, [.int .i64 0]) := by kernel_rfl
theorem isAgg24 : isAggB Try.prog 24 = some true := by kernel_rfl
theorem tsz24 : (Try.prog.types[24]'(of_decide_eq_true (by kernel_rfl))).size = 2 := by kernel_rfl
theorem size24 : sizeB Try.prog 24 = some 2 := by kernel_rfl
theorem intK24 : intKindB Try.prog 24 = none := by kernel_rfl
theorem elem24 : elemB Try.prog 24 = none := by kernel_rfl
theorem zero24 : zeroC Try.prog 24 = some [.slice none 0 0, .slice none 0 0] := by kernel_rfl
theorem field24_0 : fieldB Try.prog 24 0 = some (0, 22) := by kernel_rfl
theorem field24_1 : fieldB Try.prog 24 1 = some (1, 23) := by kernel_rfl
theorem places24 : placesOf Try.prog 24 = some (fun i => (#[(0, 1), (1, 1)] : Array (Nat × Nat))[i]?) := by kernel_rfl
theorem isAgg25 : isAggB Try.prog 25 = some true := by kernel_rfl
theorem tsz25 : (Try.prog.types[25]'(of_decide_eq_true (by kernel_rfl))).size = 2 := by kernel_rfl
theorem size25 : sizeB Try.prog 25 = some 2 := by kernel_rfl
theorem intK25 : intKindB Try.prog 25 = none := by kernel_rfl
theorem elem25 : elemB Try.prog 25 = none := by kernel_rfl
theorem zero25 : zeroC Try.prog 25 = some [.slice none 0 0, .slice none 0 0] := by kernel_rfl
theorem field25_0 : fieldB Try.prog 25 0 = some (0, 22) := by kernel_rfl
theorem field25_1 : fieldB Try.prog 25 1 = some (1, 23) := by kernel_rfl
theorem places25 : placesOf Try.prog 25 = some (fun i => (#[(0, 1), (1, 1)] : Array (Nat × Nat))[i]?) := by kernel_rfl
theorem isAgg26 : isAggB Try.prog 26 = some false := by kernel_rfl
theorem tsz26 : (Try.prog.types[26]'(of_decide_eq_true (by kernel_rfl))).size = 1 := by kernel_rfl
theorem size26 : sizeB Try.prog 26 = some 1 := by kernel_rfl
theorem intK26 : intKindB Try.prog 26 = none := by kernel_rfl
theorem elem26 : elemB Try.prog 26 = some 5 := by kernel_rfl
theorem zero26 : zeroC Try.prog 26 = some [.slice none 0 0] := by kernel_rfl
theorem elty26 : eltyB Try.prog 26 = some (5, 1, 1, [.int .u8 0]) := by kernel_rfl
theorem isAgg35 : isAggB Try.prog 35 = some false := by kernel_rfl
theorem tsz35 : (Try.prog.types[35]'(of_decide_eq_true (by kernel_rfl))).size = 1 := by kernel_rfl
theorem size35 : sizeB Try.prog 35 = some 1 := by kernel_rfl
theorem intK35 : intKindB Try.prog 35 = none := by kernel_rfl
theorem elem35 : elemB Try.prog 35 = some 26 := by kernel_rfl
theorem zero35 : zeroC Try.prog 35 = some [.slice none 0 0] := by kernel_rfl
theorem elty35 : eltyB Try.prog 35 = some (26, 1, 24, [.slice none 0 0]) := by kernel_rfl
theorem isAgg36 : isAggB Try.prog 36 = some true := by kernel_rfl
theorem tsz36 : (Try.prog.types[36]'(of_decide_eq_true (by kernel_rfl))).size = 4 := by kernel_rfl
theorem size36 : sizeB Try.prog 36 = some 4 := by kernel_rfl
theorem intK36 : intKindB Try.prog 36 = none := by kernel_rfl
theorem elem36 : elemB Try.prog 36 = none := by kernel_rfl
theorem zero36 : zeroC Try.prog 36 = some [.int .i64 0, .int .i64 0, .int .i64 0, .slice none 0 0] := by kernel_rfl
theorem field36_0 : fieldB Try.prog 36 0 = some (0, 3) := by kernel_rfl
theorem field36_1 : fieldB Try.prog 36 1 = some (1, 3) := by kernel_rfl
theorem field36_2 : fieldB Try.prog 36 2 = some (2, 3) := by kernel_rfl
theorem field36_3 : fieldB Try.prog 36 3 = some (3, 26) := by kernel_rfl
theorem places36 : placesOf Try.prog 36 = some (fun i => (#[(0, 1), (1, 1), (2, 1), (3, 1)] : Array (Nat × Nat))[i]?) := by kernel_rfl
theorem isAgg37 : isAggB Try.prog 37 = some true := by kernel_rfl
theorem tsz37 : (Try.prog.types[37]'(of_decide_eq_true (by kernel_rfl))).size = 4 := by kernel_rfl
theorem size37 : sizeB Try.prog 37 = some 4 := by kernel_rfl
theorem intK37 : intKindB Try.prog 37 = none := by kernel_rfl
theorem elem37 : elemB Try.prog 37 = none := by kernel_rfl
theorem zero37 : zeroC Try.prog 37 = some [.int .i64 0, .int .i64 0, .int .i64 0, .slice none 0 0] := by kernel_rfl
theorem field37_0 : fieldB Try.prog 37 0 = some (0, 3) := by kernel_rfl
theorem field37_1 : fieldB Try.prog 37 1 = some (1, 3) := by kernel_rfl
theorem field37_2 : fieldB Try.prog 37 2 = some (2, 3) := by kernel_rfl
theorem field37_3 : fieldB Try.prog 37 3 = some (3, 26) := by kernel_rfl
theorem places37 : placesOf Try.prog 37 = some (fun i => (#[(0, 1), (1, 1), (2, 1), (3, 1)] : Array (Nat × Nat))[i]?) := by kernel_rfl
theorem isAgg55 : isAggB Try.prog 55 = some false := by kernel_rfl
theorem tsz55 : (Try.prog.types[55]'(of_decide_eq_true (by kernel_rfl))).size = 1 := by kernel_rfl
theorem size55 : sizeB Try.prog 55 = some 1 := by kernel_rfl
theorem intK55 : intKindB Try.prog 55 = some .u64 := by kernel_rfl
theorem elem55 : elemB Try.prog 55 = none := by kernel_rfl
theorem zero55 : zeroC Try.prog 55 = some [.int .u64 0] := by kernel_rfl
theorem isAgg57 : isAggB Try.prog 57 = some true := by kernel_rfl
theorem tsz57 : (Try.prog.types[57]'(of_decide_eq_true (by kernel_rfl))).size = 4 := by kernel_rfl
theorem size57 : sizeB Try.prog 57 = some 4 := by kernel_rfl
theorem intK57 : intKindB Try.prog 57 = none := by kernel_rfl
theorem elem57 : elemB Try.prog 57 = none := by kernel_rfl
theorem zero57 : zeroC Try.prog 57 = some [.pointer none, .pointer none, .pointer none, .string ByteArray.empty] := by kernel_rfl
theorem field57_0 : fieldB Try.prog 57 0 = some (0, 17) := by kernel_rfl
theorem field57_1 : fieldB Try.prog 57 1 = some (1, 17) := by kernel_rfl
theorem field57_2 : fieldB Try.prog 57 2 = some (2, 17) := by kernel_rfl
theorem field57_3 : fieldB Try.prog 57 3 = some (3, 9) := by kernel_rfl
theorem isAgg58 : isAggB Try.prog 58 = some true := by kernel_rfl
theorem tsz58 : (Try.prog.types[58]'(of_decide_eq_true (by kernel_rfl))).size = 4 := by kernel_rfl
theorem size58 : sizeB Try.prog 58 = some 4 := by kernel_rfl
theorem intK58 : intKindB Try.prog 58 = none := by kernel_rfl
theorem elem58 : elemB Try.prog 58 = none := by kernel_rfl
theorem zero58 : zeroC Try.prog 58 = some [.pointer none, .pointer none, .pointer none, .string ByteArray.empty] := by kernel_rfl
theorem field58_0 : fieldB Try.prog 58 0 = some (0, 17) := by kernel_rfl
theorem field58_1 : fieldB Try.prog 58 1 = some (1, 17) := by kernel_rfl
theorem field58_2 : fieldB Try.prog 58 2 = some (2, 17) := by kernel_rfl
theorem field58_3 : fieldB Try.prog 58 3 = some (3, 9) := by kernel_rfl
theorem isAgg59 : isAggB Try.prog 59 = some true := by kernel_rfl
theorem tsz59 : (Try.prog.types[59]'(of_decide_eq_true (by kernel_rfl))).size = 0 := by kernel_rfl
theorem size59 : sizeB Try.prog 59 = some 0 := by kernel_rfl
theorem intK59 : intKindB Try.prog 59 = none := by kernel_rfl
theorem elem59 : elemB Try.prog 59 = none := by kernel_rfl
theorem arr59 : arrB Try.prog 59 = some (0, 16) := by kernel_rfl
theorem zero59 : zeroC Try.prog 59 = some [] := by kernel_rfl
theorem isAgg60 : isAggB Try.prog 60 = some true := by kernel_rfl
theorem tsz60 : (Try.prog.types[60]'(of_decide_eq_true (by kernel_rfl))).size = 0 := by kernel_rfl
theorem size60 : sizeB Try.prog 60 = some 0 := by kernel_rfl
theorem intK60 : intKindB Try.prog 60 = none := by kernel_rfl
theorem elem60 : elemB Try.prog 60 = none := by kernel_rfl
theorem zero60 : zeroC Try.prog 60 = some [] := by kernel_rfl
theorem field60_0 : fieldB Try.prog 60 0 = some (0, 59) := by kernel_rfl
theorem places60 : placesOf Try.prog 60 = some (fun i => (#[(0, 0)] : Array (Nat × Nat))[i]?) := by kernel_rfl
theorem isAgg61 : isAggB Try.prog 61 = some true := by kernel_rfl
theorem tsz61 : (Try.prog.types[61]'(of_decide_eq_true (by kernel_rfl))).size = 0 := by kernel_rfl
theorem size61 : sizeB Try.prog 61 = some 0 := by kernel_rfl
theorem intK61 : intKindB Try.prog 61 = none := by kernel_rfl
theorem elem61 : elemB Try.prog 61 = none := by kernel_rfl
theorem zero61 : zeroC Try.prog 61 = some [] := by kernel_rfl
theorem field61_0 : fieldB Try.prog 61 0 = some (0, 59) := by kernel_rfl
theorem places61 : placesOf Try.prog 61 = some (fun i => (#[(0, 0)] : Array (Nat × Nat))[i]?) := by kernel_rfl
theorem isAgg63 : isAggB Try.prog 63 = some false := by kernel_rfl
theorem tsz63 : (Try.prog.types[63]'(of_decide_eq_true (by kernel_rfl))).size = 1 := by kernel_rfl
theorem size63 : sizeB Try.prog 63 = some 1 := by kernel_rfl
theorem intK63 : intKindB Try.prog 63 = some .u32 := by kernel_rfl
theorem elem63 : elemB Try.prog 63 = none := by kernel_rfl
theorem zero63 : zeroC Try.prog 63 = some [.int .u32 0] := by kernel_rfl
theorem isAgg64 : isAggB Try.prog 64 = some false := by kernel_rfl
theorem tsz64 : (Try.prog.types[64]'(of_decide_eq_true (by kernel_rfl))).size = 1 := by kernel_rfl
theorem size64 : sizeB Try.prog 64 = some 1 := by kernel_rfl
theorem intK64 : intKindB Try.prog 64 = some .u8 := by kernel_rfl
theorem elem64 : elemB Try.prog 64 = none := by kernel_rfl
theorem und64 : Try.prog.underlying 64 = some (.int .u8) := by kernel_rfl
theorem zero64 : zeroC Try.prog 64 = some [.int .u8 0] := by kernel_rfl
theorem isAgg65 : isAggB Try.prog 65 = some false := by kernel_rfl
theorem tsz65 : (Try.prog.types[65]'(of_decide_eq_true (by kernel_rfl))).size = 1 := by kernel_rfl
theorem size65 : sizeB Try.prog 65 = some 1 := by kernel_rfl
theorem intK65 : intKindB Try.prog 65 = some .u8 := by kernel_rfl
theorem elem65 : elemB Try.prog 65 = none := by kernel_rfl
theorem und65 : Try.prog.underlying 65 = some (.int .u8) := by kernel_rfl
theorem zero65 : zeroC Try.prog 65 = some [.int .u8 0] := by kernel_rfl
theorem isAgg68 : isAggB Try.prog 68 = some false := by kernel_rfl
theorem tsz68 : (Try.prog.types[68]'(of_decide_eq_true (by kernel_rfl))).size = 1 := by kernel_rfl
theorem size68 : sizeB Try.prog 68 = some 1 := by kernel_rfl
theorem intK68 : intKindB Try.prog 68 = some .i32 := by kernel_rfl
theorem elem68 : elemB Try.prog 68 = none := by kernel_rfl
theorem zero68 : zeroC Try.prog 68 = some [.int .i32 0] := by kernel_rfl
theorem isAgg69 : isAggB Try.prog 69 = some false := by kernel_rfl
theorem tsz69 : (Try.prog.types[69]'(of_decide_eq_true (by kernel_rfl))).size = 1 := by kernel_rfl
theorem size69 : sizeB Try.prog 69 = some 1 := by kernel_rfl
theorem intK69 : intKindB Try.prog 69 = some .i32 := by kernel_rfl
theorem elem69 : elemB Try.prog 69 = none := by kernel_rfl
theorem zero69 : zeroC Try.prog 69 = some [.int .i32 0] := by kernel_rfl
theorem isAgg70 : isAggB Try.prog 70 = some true := by kernel_rfl
theorem tsz70 : (Try.prog.types[70]'(of_decide_eq_true (by kernel_rfl))).size = 11 := by kernel_rfl
theorem size70 : sizeB Try.prog 70 = some 11 := by kernel_rfl
theorem intK70 : intKindB Try.prog 70 = none := by kernel_rfl
theorem elem70 : elemB Try.prog 70 = none := by kernel_rfl
theorem zero70 : zeroC Try.prog 70 = some [.int .u64 0, .int .u64 0, .int .u32 0, .int .u8 0, .int .u8 0, .int .u8 0, .int .u8 0, .nilFunc, .pointer none, .int .i32 0, .int .i32 0] := by kernel_rfl
theorem field70_0 : fieldB Try.prog 70 0 = some (0, 12) := by kernel_rfl
theorem field70_1 : fieldB Try.prog 70 1 = some (1, 12) := by kernel_rfl
theorem field70_2 : fieldB Try.prog 70 2 = some (2, 63) := by kernel_rfl
theorem field70_3 : fieldB Try.prog 70 3 = some (3, 64) := by kernel_rfl
theorem field70_4 : fieldB Try.prog 70 4 = some (4, 5) := by kernel_rfl
theorem field70_5 : fieldB Try.prog 70 5 = some (5, 5) := by kernel_rfl
theorem field70_6 : fieldB Try.prog 70 6 = some (6, 65) := by kernel_rfl
theorem field70_7 : fieldB Try.prog 70 7 = some (7, 66) := by kernel_rfl
theorem field70_8 : fieldB Try.prog 70 8 = some (8, 67) := by kernel_rfl
theorem field70_9 : fieldB Try.prog 70 9 = some (9, 68) := by kernel_rfl
theorem field70_10 : fieldB Try.prog 70 10 = some (10, 69) := by kernel_rfl
theorem isAgg71 : isAggB Try.prog 71 = some true := by kernel_rfl
theorem tsz71 : (Try.prog.types[71]'(of_decide_eq_true (by kernel_rfl))).size = 11 := by kernel_rfl
theorem size71 : sizeB Try.prog 71 = some 11 := by kernel_rfl
theorem intK71 : intKindB Try.prog 71 = none := by kernel_rfl
theorem elem71 : elemB Try.prog 71 = none := by kernel_rfl
theorem zero71 : zeroC Try.prog 71 = some [.int .u64 0, .int .u64 0, .int .u32 0, .int .u8 0, .int .u8 0, .int .u8 0, .int .u8 0, .nilFunc, .pointer none, .int .i32 0, .int .i32 0] := by kernel_rfl
theorem field71_0 : fieldB Try.prog 71 0 = some (0, 12) := by kernel_rfl
theorem field71_1 : fieldB Try.prog 71 1 = some (1, 12) := by kernel_rfl
theorem field71_2 : fieldB Try.prog 71 2 = some (2, 63) := by kernel_rfl
theorem field71_3 : fieldB Try.prog 71 3 = some (3, 64) := by kernel_rfl
theorem field71_4 : fieldB Try.prog 71 4 = some (4, 5) := by kernel_rfl
theorem field71_5 : fieldB Try.prog 71 5 = some (5, 5) := by kernel_rfl
theorem field71_6 : fieldB Try.prog 71 6 = some (6, 65) := by kernel_rfl
theorem field71_7 : fieldB Try.prog 71 7 = some (7, 66) := by kernel_rfl
theorem field71_8 : fieldB Try.prog 71 8 = some (8, 67) := by kernel_rfl
theorem field71_9 : fieldB Try.prog 71 9 = some (9, 68) := by kernel_rfl
theorem field71_10 : fieldB Try.prog 71 10 = some (10, 69) := by kernel_rfl
theorem fnOk3 : FnOk Try.prog 3 := ⟨_, _, Try.func3, rfl, rfl⟩
theorem fnOk4 : FnOk Try.prog 4 := ⟨_, _, Try.func4, rfl, rfl⟩
theorem fnOk5 : FnOk Try.prog 5 := ⟨_, _, Try.func5, rfl, rfl⟩
theorem fnOk6 : FnOk Try.prog 6 := ⟨_, _, Try.func6, rfl, rfl⟩
theorem fnOk7 : FnOk Try.prog 7 := ⟨_, _, Try.func7, rfl, rfl⟩
theorem fnOk8 : FnOk Try.prog 8 := ⟨_, _, Try.func8, rfl, rfl⟩
theorem fnOk9 : FnOk Try.prog 9 := ⟨_, _, Try.func9, rfl, rfl⟩
theorem fnOk10 : FnOk Try.prog 10 := ⟨_, _, Try.func10, rfl, rfl⟩
theorem fnOk11 : FnOk Try.prog 11 := ⟨_, _, Try.func11, rfl, rfl⟩
theorem fnOk12 : FnOk Try.prog 12 := ⟨_, _, Try.func12, rfl, rfl⟩
theorem fnOk13 : FnOk Try.prog 13 := ⟨_, _, Try.func13, rfl, rfl⟩
theorem fnOk14 : FnOk Try.prog 14 := ⟨_, _, Try.func14, rfl, rfl⟩
theorem fnOk15 : FnOk Try.prog 15 := ⟨_, _, Try.func15, rfl, rfl⟩
theorem fnOk16 : FnOk Try.prog 16 := ⟨_, _, Try.func16, rfl, rfl⟩
theorem fnOk17 : FnOk Try.prog 17 := ⟨_, _, Try.func17, rfl, rfl⟩
theorem fnOk18 : FnOk Try.prog 18 := ⟨_, _, Try.func18, rfl, rfl⟩
theorem fnOk19 : FnOk Try.prog 19 := ⟨_, _, Try.func19, rfl, rfl⟩
theorem fnOk20 : FnOk Try.prog 20 := ⟨_, _, Try.func20, rfl, rfl⟩
theorem fnOk21 : FnOk Try.prog 21 := ⟨_, _, Try.func21, rfl, rfl⟩
theorem fnOk22 : FnOk Try.prog 22 := ⟨_, _, Try.func22, rfl, rfl⟩
theorem fnOk23 : FnOk Try.prog 23 := ⟨_, _, Try.func23, rfl, rfl⟩
theorem fnOk24 : FnOk Try.prog 24 := ⟨_, _, Try.func24, rfl, rfl⟩
theorem fnOk25 : FnOk Try.prog 25 := ⟨_, _, Try.func25, rfl, rfl⟩
theorem fnOk26 : FnOk Try.prog 26 := ⟨_, _, Try.func26, rfl, rfl⟩
theorem fnOk27 : FnOk Try.prog 27 := ⟨_, _, Try.func27, rfl, rfl⟩
theorem fnOk28 : FnOk Try.prog 28 := ⟨_, _, Try.func28, rfl, rfl⟩
theorem fnOk29 : FnOk Try.prog 29 := ⟨_, _, Try.func29, rfl, rfl⟩
theorem fnOk30 : FnOk Try.prog 30 := ⟨_, _, Try.func30, rfl, rfl⟩
theorem fnOk31 : FnOk Try.prog 31 := ⟨_, _, Try.func31, rfl, rfl⟩
end Go.Proofs.Ytfppilpaaoklaaa
