/- Closed facts on the types of the program, for the walk over plain values. -/
import Derived.Test.YtgjkbihjpgppbaaPw16
import Derived.Test.YtgjkbihjpgppbaaProg
namespace Go.Proofs.Ytgjkbihjpgppbaa
open Go Go.RowKit
theorem isAgg2 : isAggB Try.prog 2 = some false := by kernel_rfl
theorem tsz2 : (Try.prog.types[2]'(of_decide_eq_true (by kernel_rfl))).size = 1 := by kernel_rfl
theorem size2 : sizeB Try.prog 2 = some 1 := by kernel_rfl
theorem intK2 : intKindB Try.prog 2 = some .i64 := by kernel_rfl
theorem elem2 : elemB Try.prog 2 = none := by kernel_rfl
theorem zero2 : zeroC Try.prog 2 = some [.int .i64 0] := by kernel_rfl
theorem isAgg3 : isAggB Try.prog 3 = some false := by kernel_rfl
theorem tsz3 : (Try.prog.types[3]'(of_decide_eq_true (by kernel_rfl))).size = 1 := by kernel_rfl
theorem size3 : sizeB Try.prog 3 = some 1 := by kernel_rfl
theorem intK3 : intKindB Try.prog 3 = some .i64 := by kernel_rfl
theorem elem3 : elemB Try.prog 3 = none := by kernel_rfl
theorem zero3 : zeroC Try.prog 3 = some [.int .i64 0] := by kernel_rfl
theorem isAgg4 : isAggB Try.prog 4 = some false := by kernel_rfl
theorem tsz4 : (Try.prog.types[4]'(of_decide_eq_true (by kernel_rfl))).size = 1 := by kernel_rfl
theorem size4 : sizeB Try.prog 4 = some 1 := by kernel_rfl
theorem intK4 : intKindB Try.prog 4 = none := by kernel_rfl
theorem elem4 : elemB Try.prog 4 = none := by kernel_rfl
theorem und4 : Try.prog.underlying 4 = some .bool := by kernel_rfl
theorem zero4 : zeroC Try.prog 4 = some [.bool false] := by kernel_rfl
theorem isAgg5 : isAggB Try.prog 5 = some false := by kernel_rfl
theorem tsz5 : (Try.prog.types[5]'(of_decide_eq_true (by kernel_rfl))).size = 1 := by kernel_rfl
theorem size5 : sizeB Try.prog 5 = some 1 := by kernel_rfl
theorem intK5 : intKindB Try.prog 5 = some .u8 := by kernel_rfl
theorem elem5 : elemB Try.prog 5 = none := by kernel_rfl
theorem und5 : Try.prog.underlying 5 = some (.int .u8) := by kernel_rfl
theorem zero5 : zeroC Try.prog 5 = some [.int .u8 0] := by kernel_rfl
theorem isAgg6 : isAggB Try.prog 6 = some false := by kernel_rfl
theorem tsz6 : (Try.prog.types[6]'(of_decide_eq_true (by kernel_rfl))).size = 1 := by kernel_rfl
theorem size6 : sizeB Try.prog 6 = some 1 := by kernel_rfl
theorem intK6 : intKindB Try.prog 6 = some .u8 := by kernel_rfl
theorem elem6 : elemB Try.prog 6 = none := by kernel_rfl
theorem und6 : Try.prog.underlying 6 = some (.int .u8) := by kernel_rfl
theorem zero6 : zeroC Try.prog 6 = some [.int .u8 0] := by kernel_rfl
theorem isAgg7 : isAggB Try.prog 7 = some true := by kernel_rfl
theorem tsz7 : (Try.prog.types[7]'(of_decide_eq_true (by kernel_rfl))).size = 4 := by kernel_rfl
theorem size7 : sizeB Try.prog 7 = some 4 := by kernel_rfl
theorem intK7 : intKindB Try.prog 7 = none := by kernel_rfl
theorem elem7 : elemB Try.prog 7 = none := by kernel_rfl
theorem zero7 : zeroC Try.prog 7 = some [.int .i64 0, .int .i64 0, .bool false, .int .u8 0] := by kernel_rfl
theorem field7_0 : fieldB Try.prog 7 0 = some (0, 2) := by kernel_rfl
theorem field7_1 : fieldB Try.prog 7 1 = some (1, 3) := by kernel_rfl
theorem field7_2 : fieldB Try.prog 7 2 = some (2, 4) := by kernel_rfl
theorem field7_3 : fieldB Try.prog 7 3 = some (3, 6) := by kernel_rfl
theorem places7 : placesOf Try.prog 7 = some (fun i => (#[(0, 1), (1, 1), (2, 1), (3, 1)] : Array (Nat × Nat))[i]?) := by kernel_rfl
theorem isAgg8 : isAggB Try.prog 8 = some true := by kernel_rfl
theorem tsz8 : (Try.prog.types[8]'(of_decide_eq_true (by kernel_rfl))).size = 4 := by kernel_rfl
theorem size8 : sizeB Try.prog 8 = some 4 := by kernel_rfl
theorem intK8 : intKindB Try.prog 8 = none := by kernel_rfl
theorem elem8 : elemB Try.prog 8 = none := by kernel_rfl
theorem zero8 : zeroC Try.prog 8 = some [.int .i64 0, .int .i64 0, .bool false, .int .u8 0] := by kernel_rfl
theorem field8_0 : fieldB Try.prog 8 0 = some (0, 2) := by kernel_rfl
theorem field8_1 : fieldB Try.prog 8 1 = some (1, 3) := by kernel_rfl
theorem field8_2 : fieldB Try.prog 8 2 = some (2, 4) := by kernel_rfl
theorem field8_3 : fieldB Try.prog 8 3 = some (3, 6) := by kernel_rfl
theorem places8 : placesOf Try.prog 8 = some (fun i => (#[(0, 1), (1, 1), (2, 1), (3, 1)] : Array (Nat × Nat))[i]?) := by kernel_rfl
theorem isAgg9 : isAggB Try.prog 9 = some false := by kernel_rfl
theorem tsz9 : (Try.prog.types[9]'(of_decide_eq_true (by kernel_rfl))).size = 1 := by kernel_rfl
theorem size9 : sizeB Try.prog 9 = some 1 := by kernel_rfl
theorem intK9 : intKindB Try.prog 9 = none := by kernel_rfl
theorem elem9 : elemB Try.prog 9 = none := by kernel_rfl
theorem und9 : Try.prog.underlying 9 = some .string := by kernel_rfl
theorem zero9 : zeroC Try.prog 9 = some [.string ByteArray.empty] := by kernel_rfl
theorem isAgg10 : isAggB Try.prog 10 = some false := by kernel_rfl
theorem tsz10 : (Try.prog.types[10]'(of_decide_eq_true (by kernel_rfl))).size = 1 := by kernel_rfl
theorem size10 : sizeB Try.prog 10 = some 1 := by kernel_rfl
theorem intK10 : intKindB Try.prog 10 = none := by kernel_rfl
theorem elem10 : elemB Try.prog 10 = none := by kernel_rfl
theorem und10 : Try.prog.underlying 10 = some .string := by kernel_rfl
theorem zero10 : zeroC Try.prog 10 = some [.string ByteArray.empty] := by kernel_rfl
theorem isAgg11 : isAggB Try.prog 11 = some false := by kernel_rfl
theorem tsz11 : (Try.prog.types[11]'(of_decide_eq_true (by kernel_rfl))).size = 1 := by kernel_rfl
theorem size11 : sizeB Try.prog 11 = some 1 := by kernel_rfl
theorem intK11 : intKindB Try.prog 11 = none := by kernel_rfl
theorem elem11 : elemB Try.prog 11 = none := by kernel_rfl
theorem und11 : Try.prog.underlying 11 = some .string := by kernel_rfl
theorem zero11 : zeroC Try.prog 11 = some [.string ByteArray.empty] := by kernel_rfl
theorem isAgg12 : isAggB Try.prog 12 = some false := by kernel_rfl
theorem tsz12 : (Try.prog.types[12]'(of_decide_eq_true (by kernel_rfl))).size = 1 := by kernel_rfl
theorem size12 : sizeB Try.prog 12 = some 1 := by kernel_rfl
theorem intK12 : intKindB Try.prog 12 = some .u64 := by kernel_rfl
theorem elem12 : elemB Try.prog 12 = none := by kernel_rfl
theorem zero12 : zeroC Try.prog 12 = some [.int .u64 0] := by kernel_rfl
theorem isAgg13 : isAggB Try.prog 13 = some true := by kernel_rfl
theorem tsz13 : (Try.prog.types[13]'(of_decide_eq_true (by kernel_rfl))).size = 2 := by kernel_rfl
theorem size13 : sizeB Try.prog 13 = some 2 := by kernel_rfl
theorem intK13 : intKindB Try.prog 13 = none := by kernel_rfl
theorem elem13 : elemB Try.prog 13 = none := by kernel_rfl
theorem zero13 : zeroC Try.prog 13 = some [.string ByteArray.empty, .int .u64 0] := by kernel_rfl
theorem field13_0 : fieldB Try.prog 13 0 = some (0, 9) := by kernel_rfl
theorem field13_1 : fieldB Try.prog 13 1 = some (1, 12) := by kernel_rfl
theorem places13 : placesOf Try.prog 13 = some (fun i => (#[(0, 1), (1, 1)] : Array (Nat × Nat))[i]?) := by kernel_rfl
theorem isAgg14 : isAggB Try.prog 14 = some true := by kernel_rfl
theorem tsz14 : (Try.prog.types[14]'(of_decide_eq_true (by kernel_rfl))).size = 2 := by kernel_rfl
theorem size14 : sizeB Try.prog 14 = some 2 := by kernel_rfl
theorem intK14 : intKindB Try.prog 14 = none := by kernel_rfl
theorem elem14 : elemB Try.prog 14 = none := by kernel_rfl
theorem zero14 : zeroC Try.prog 14 = some [.string ByteArray.empty, .int .u64 0] := by kernel_rfl
theorem field14_0 : fieldB Try.prog 14 0 = some (0, 9) := by kernel_rfl
theorem field14_1 : fieldB Try.prog 14 1 = some (1, 12) := by kernel_rfl
theorem places14 : placesOf Try.prog 14 = some (fun i => (#[(0, 1), (1, 1)] : Array (Nat × Nat))[i]?) := by kernel_rfl
theorem isAgg18 : isAggB Try.prog 18 = some true := by kernel_rfl
theorem tsz18 : (Try.prog.types[18]'(of_decide_eq_true (by kernel_rfl))).size = 1 := by kernel_rfl
theorem size18 : sizeB Try.prog 18 = some 1 := by kernel_rfl
theorem intK18 : intKindB Try.prog 18 = none := by kernel_rfl
theorem elem18 : elemB Try.prog 18 = none := by kernel_rfl
theorem zero18 : zeroC Try.prog 18 = some [.pointer none] := by kernel_rfl
theorem field18_0 : fieldB Try.prog 18 0 = some (0, 17) := by kernel_rfl
theorem isAgg19 : isAggB Try.prog 19 = some true := by kernel_rfl
theorem tsz19 : (Try.prog.types[19]'(of_decide_eq_true (by kernel_rfl))).size = 1 := by kernel_rfl
theorem size19 : sizeB Try.prog 19 = some 1 := by kernel_rfl
theorem intK19 : intKindB Try.prog 19 = none := by kernel_rfl
theorem elem19 : elemB Try.prog 19 = none := by kernel_rfl
theorem zero19 : zeroC Try.prog 19 = some [.pointer none] := by kernel_rfl
theorem field19_0 : fieldB Try.prog 19 0 = some (0, 17) := by kernel_rfl
theorem isAgg21 : isAggB Try.prog 21 = some false := by kernel_rfl
theorem tsz21 : (Try.prog.types[21]'(of_decide_eq_true (by kernel_rfl))).size = 1 := by kernel_rfl
theorem size21 : sizeB Try.prog 21 = some 1 := by kernel_rfl
theorem intK21 : intKindB Try.prog 21 = some .i32 := by kernel_rfl
theorem elem21 : elemB Try.prog 21 = none := by kernel_rfl
theorem zero21 : zeroC Try.prog 21 = some [.int .i32 0] := by kernel_rfl
theorem isAgg22 : isAggB Try.prog 22 = some false := by kernel_rfl
theorem tsz22 : (Try.prog.types[22]'(of_decide_eq_true (by kernel_rfl))).size = 1 := by kernel_rfl
theorem size22 : sizeB Try.prog 22 = some 1 := by kernel_rfl
theorem intK22 : intKindB Try.prog 22 = none := by kernel_rfl
theorem elem22 : elemB Try.prog 22 = some 27 := by kernel_rfl
theorem zero22 : zeroC Try.prog 22 = some [.slice none 0 0] := by kernel_rfl
theorem elty22 : eltyB Try.prog 22 = some (27, 1, 24, [.slice none 0 0]) := by kernel_rfl
theorem isAgg23 : isAggB Try.prog 23 = some true := by kernel_rfl
theorem tsz23 : (Try.prog.types[23]'(of_decide_eq_true (by kernel_rfl))).size = 4 := by kernel_rfl
theorem size23 : sizeB Try.prog 23 = some 4 := by kernel_rfl
theorem intK23 : intKindB Try.prog 23 = none := by kernel_rfl
theorem elem23 : elemB Try.prog 23 = none := by kernel_rfl
theorem zero23 : zeroC Try.prog 23 = some [.int .i64 0, .slice none 0 0, .int .i64 0, .bool false] := by kernel_rfl
theorem field23_0 : fieldB Try.prog 23 0 = some (0, 3) := by kernel_rfl
theorem field23_1 : fieldB Try.prog 23 1 = some (1, 22) := by kernel_rfl
theorem field23_2 : fieldB Try.prog 23 2 = some (2, 3) := by kernel_rfl
theorem field23_3 : fieldB Try.prog 23 3 = some (3, 4) := by kernel_rfl
theorem places23 : placesOf Try.prog 23 = some (fun i => (#[(0, 1), (1, 1), (2, 1), (3, 1)] : Array (Nat × Nat))[i]?) := by kernel_rfl
theorem isAgg24 : isAggB Try.prog 24 = some true := by kernel_rfl
theorem tsz24 : (Try.prog.types[24]'(of_decide_eq_true (by kernel_rfl))).size = 4 := by kernel_rfl
theorem size24 : sizeB Try.prog 24 = some 4 := by kernel_rfl
theorem intK24 : intKindB Try.prog 24 = none := by kernel_rfl
theorem elem24 : elemB Try.prog 24 = none := by kernel_rfl
theorem zero24 : zeroC Try.prog 24 = some [.int .i64 0, .slice none 0 0, .int .i64 0, .bool false] := by kernel_rfl
theorem field24_0 : fieldB Try.prog 24 0 = some (0, 3) := by kernel_rfl
theorem field24_1 : fieldB Try.prog 24 1 = some (1, 22) := by kernel_rfl
theorem field24_2 : fieldB Try.prog 24 2 = some (2, 3) := by kernel_rfl
theorem field24_3 : fieldB Try.prog 24 3 = some (3, 4) := by kernel_rfl
theorem places24 : placesOf Try.prog 24 = some (fun i => (#[(0, 1), (1, 1), (2, 1), (3, 1)] : Array (Nat × Nat))[i]?) := by kernel_rfl
theorem isAgg27 : isAggB Try.prog 27 = some false := by kernel_rfl
theorem tsz27 : (Try.prog.types[27]'(of_decide_eq_true (by kernel_rfl))).size = 1 := by kernel_rfl
theorem size27 : sizeB Try.prog 27 = some 1 := by kernel_rfl
theorem intK27 : intKindB Try.prog 27 = none := by kernel_rfl
theorem elem27 : elemB Try.prog 27 = some 5 := by kernel_rfl
theorem zero27 : zeroC Try.prog 27 = some [.slice none 0 0] := by kernel_rfl
theorem elty27 : eltyB Try.prog 27 = some (5, 1, 1, [.int .u8 0]) := by kernel_rfl
theorem isAgg28 : isAggB Try.prog 28 = some false := by kernel_rfl
theorem tsz28 : (Try.prog.types[28]'(of_decide_eq_true (by kernel_rfl))).size = 1 := by kernel_rfl
theorem size28 : sizeB Try.prog 28 = some 1 := by kernel_rfl
theorem intK28 : intKindB Try.prog 28 = some .i64 := by kernel_rfl
theorem elem28 : elemB Try.prog 28 = none := by kernel_rfl
theorem zero28 : zeroC Try.prog 28 = some [.int .i64 0] := by kernel_rfl
theorem isAgg44 : isAggB Try.prog 44 = some true := by kernel_rfl
theorem tsz44 : (Try.prog.types[44]'(of_decide_eq_true (by kernel_rfl))).size = 2 := by kernel_rfl
theorem size44 : sizeB Try.prog 44 = some 2 := by kernel_rfl
theorem intK44 : intKindB Try.prog 44 = none := by kernel_rfl
theorem elem44 : elemB Try.prog 44 = none := by kernel_rfl
theorem zero44 : zeroC Try.prog 44 = some [.int .i64 0, .int .i64 0] := by kernel_rfl
theorem field44_0 : fieldB Try.prog 44 0 = some (0, 3) := by kernel_rfl
theorem field44_1 : fieldB Try.prog 44 1 = some (1, 3) := by kernel_rfl
theorem places44 : placesOf Try.prog 44 = some (fun i => (#[(0, 1), (1, 1)] : Array (Nat × Nat))[i]?) := by kernel_rfl
theorem isAgg45 : isAggB Try.prog 45 = some true := by kernel_rfl
theorem tsz45 : (Try.prog.types[45]'(of_decide_eq_true (by kernel_rfl))).size = 2 := by kernel_rfl
theorem size45 : sizeB Try.prog 45 = some 2 := by kernel_rfl
theorem intK45 : intKindB Try.prog 45 = none := by kernel_rfl
theorem elem45 : elemB Try.prog 45 = none := by kernel_rfl
theorem zero45 : zeroC Try.prog 45 = some [.int .i64 0, .int .i64 0] := by kernel_rfl
theorem field45_0 : fieldB Try.prog 45 0 = some (0, 3) := by kernel_rfl
theorem field45_1 : fieldB Try.prog 45 1 = some (1, 3) := by kernel_rfl
theorem places45 : placesOf Try.prog 45 = some (fun i => (#[(0, 1), (1, 1)] : Array (Nat × Nat))[i]?) := by kernel_rfl
theorem isAgg55 : isAggB Try.prog 55 = some false := by kernel_rfl
theorem tsz55 : (Try.prog.types[55]'(of_decide_eq_true (by kernel_rfl))).size = 1 := by kernel_rfl
theorem size55 : sizeB Try.prog 55 = some 1 := by kernel_rfl
theorem intK55 : intKindB Try.prog 55 = some .u64 := by kernel_rfl
theorem elem55 : elemB Try.prog 55 = none := by kernel_rfl
theorem zero55 : zeroC Try.prog 55 = some [.int .u64 0] := by kernel_rfl
theorem isAgg62 : isAggB Try.prog 62 = some false := by kernel_rfl
theorem tsz62 : (Try.prog.types[62]'(of_decide_eq_true (by kernel_rfl))).size = 1 := by kernel_rfl
theorem size62 : sizeB Try.prog 62 = some 1 := by kernel_rfl
theorem intK62 : intKindB Try.prog 62 = some .u64 := by kernel_rfl
theorem elem62 : elemB Try.prog 62 = none := by kernel_rfl
theorem zero62 : zeroC Try.prog 62 = some [.int .u64 0] := by kernel_rfl
theorem isAgg64 : isAggB Try.prog 64 = some true := by kernel_rfl
theorem tsz64 : (Try.prog.types[64]'(of_decide_eq_true (by kernel_rfl))).size = 4 := by kernel_rfl
theorem size64 : sizeB Try.prog 64 = some 4 := by kernel_rfl
theorem intK64 : intKindB Try.prog 64 = none := by kernel_rfl
theorem elem64 : elemB Try.prog 64 = none := by kernel_rfl
theorem zero64 : zeroC Try.prog 64 = some [.pointer none, .pointer none, .pointer none, .string ByteArray.empty] := by kernel_rfl
theorem field64_0 : fieldB Try.prog 64 0 = some (0, 17) := by kernel_rfl
theorem field64_1 : fieldB Try.prog 64 1 = some (1, 17) := by kernel_rfl
theorem field64_2 : fieldB Try.prog 64 2 = some (2, 17) := by kernel_rfl
theorem field64_3 : fieldB Try.prog 64 3 = some (3, 9) := by kernel_rfl
theorem isAgg65 : isAggB Try.prog 65 = some true := by kernel_rfl
theorem tsz65 : (Try.prog.types[65]'(of_decide_eq_true (by kernel_rfl))).size = 4 := by kernel_rfl
theorem size65 : sizeB Try.prog 65 = some 4 := by kernel_rfl
theorem intK65 : intKindB Try.prog 65 = none := by kernel_rfl
theorem elem65 : elemB Try.prog 65 = none := by kernel_rfl
theorem zero65 : zeroC Try.prog 65 = some [.pointer none, .pointer none, .pointer none, .string ByteArray.empty] := by kernel_rfl
theorem field65_0 : fieldB Try.prog 65 0 = some (0, 17) := by kernel_rfl
theorem field65_1 : fieldB Try.prog 65 1 = some (1, 17) := by kernel_rfl
theorem field65_2 : fieldB Try.prog 65 2 = some (2, 17) := by kernel_rfl
theorem field65_3 : fieldB Try.prog 65 3 = some (3, 9) := by kernel_rfl
theorem isAgg66 : isAggB Try.prog 66 = some true := by kernel_rfl
theorem tsz66 : (Try.prog.types[66]'(of_decide_eq_true (by kernel_rfl))).size = 0 := by kernel_rfl
theorem size66 : sizeB Try.prog 66 = some 0 := by kernel_rfl
theorem intK66 : intKindB Try.prog 66 = none := by kernel_rfl
theorem elem66 : elemB Try.prog 66 = none := by kernel_rfl
theorem arr66 : arrB Try.prog 66 = some (0, 16) := by kernel_rfl
theorem zero66 : zeroC Try.prog 66 = some [] := by kernel_rfl
theorem isAgg67 : isAggB Try.prog 67 = some true := by kernel_rfl
theorem tsz67 : (Try.prog.types[67]'(of_decide_eq_true (by kernel_rfl))).size = 0 := by kernel_rfl
theorem size67 : sizeB Try.prog 67 = some 0 := by kernel_rfl
theorem intK67 : intKindB Try.prog 67 = none := by kernel_rfl
theorem elem67 : elemB Try.prog 67 = none := by kernel_rfl
theorem zero67 : zeroC Try.prog 67 = some [] := by kernel_rfl
theorem field67_0 : fieldB Try.prog 67 0 = some (0, 66) := by kernel_rfl
theorem places67 : placesOf Try.prog 67 = some (fun i => (#[(0, 0)] : Array (Nat × Nat))[i]?) := by kernel_rfl
theorem isAgg68 : isAggB Try.prog 68 = some true := by kernel_rfl
theorem tsz68 : (Try.prog.types[68]'(of_decide_eq_true (by kernel_rfl))).size = 0 := by kernel_rfl
theorem size68 : sizeB Try.prog 68 = some 0 := by kernel_rfl
theorem intK68 : intKindB Try.prog 68 = none := by kernel_rfl
theorem elem68 : elemB Try.prog 68 = none := by kernel_rfl
theorem zero68 : zeroC Try.prog 68 = some [] := by kernel_rfl
theorem field68_0 : fieldB Try.prog 68 0 = some (0, 66) := by kernel_rfl
theorem places68 : placesOf Try.prog 68 = some (fun i => (#[(0, 0)] : Array (Nat × Nat))[i]?) := by kernel_rfl
theorem isAgg70 : isAggB Try.prog 70 = some false := by kernel_rfl
theorem tsz70 : (Try.prog.types[70]'(of_decide_eq_true (by kernel_rfl))).size = 1 := by kernel_rfl
theorem size70 : sizeB Try.prog 70 = some 1 := by kernel_rfl
theorem intK70 : intKindB Try.prog 70 = some .u32 := by kernel_rfl
theorem elem70 : elemB Try.prog 70 = none := by kernel_rfl
theorem zero70 : zeroC Try.prog 70 = some [.int .u32 0] := by kernel_rfl
theorem isAgg71 : isAggB Try.prog 71 = some false := by kernel_rfl
theorem tsz71 : (Try.prog.types[71]'(of_decide_eq_true (by kernel_rfl))).size = 1 := by kernel_rfl
theorem size71 : sizeB Try.prog 71 = some 1 := by kernel_rfl
theorem intK71 : intKindB Try.prog 71 = some .u8 := by kernel_rfl
theorem elem71 : elemB Try.prog 71 = none := by kernel_rfl
theorem und71 : Try.prog.underlying 71 = some (.int .u8) := by kernel_rfl
theorem zero71 : zeroC Try.prog 71 = some [.int .u8 0] := by kernel_rfl
theorem isAgg72 : isAggB Try.prog 72 = some false := by kernel_rfl
theorem tsz72 : (Try.prog.types[72]'(of_decide_eq_true (by kernel_rfl))).size = 1 := by kernel_rfl
theorem size72 : sizeB Try.prog 72 = some 1 := by kernel_rfl
theorem intK72 : intKindB Try.prog 72 = some .u8 := by kernel_rfl
theorem elem72 : elemB Try.prog 72 = none := by kernel_rfl
theorem und72 : Try.prog.underlying 72 = some (.int .u8) := by kernel_rfl
theorem zero72 : zeroC Try.prog 72 = some [.int .u8 0] := by kernel_rfl
theorem isAgg75 : isAggB Try.prog 75 = some false := by kernel_rfl
theorem tsz75 : (Try.prog.types[75]'(of_decide_eq_true (by kernel_rfl))).size = 1 := by kernel_rfl
theorem size75 : sizeB Try.prog 75 = some 1 := by kernel_rfl
theorem intK75 : intKindB Try.prog 75 = some .i32 := by kernel_rfl
theorem elem75 : elemB Try.prog 75 = none := by kernel_rfl
theorem zero75 : zeroC Try.prog 75 = some [.int .i32 0] := by kernel_rfl
theorem isAgg76 : isAggB Try.prog 76 = some false := by kernel_rfl
theorem tsz76 : (Try.prog.types[76]'(of_decide_eq_true (by kernel_rfl))).size = 1 := by kernel_rfl
theorem size76 : sizeB Try.prog 76 = some 1 := by kernel_rfl
theorem intK76 : intKindB Try.prog 76 = some .i32 := by kernel_rfl
theorem elem76 : elemB Try.prog 76 = none := by kernel_rfl
theorem zero76 : zeroC Try.prog 76 = some [.int .i32 0] := by kernel_rfl
theorem isAgg77 : isAggB Try.prog 77 = some true := by kernel_rfl
theorem tsz77 : (Try.prog.types[77]'(of_decide_eq_true (by kernel_rfl))).size = 11 := by kernel_rfl
theorem size77 : sizeB Try.prog 77 = some 11 := by kernel_rfl
theorem intK77 : intKindB Try.prog 77 = none := by kernel_rfl
theorem elem77 : elemB Try.prog 77 = none := by kernel_rfl
theorem zero77 : zeroC Try.prog 77 = some [.int .u64 0, .int .u64 0, .int .u32 0, .int .u8 0, .int .u8 0, .int .u8 0, .int .u8 0, .nilFunc, .pointer none, .int .i32 0, .int .i32 0] := by kernel_rfl
theorem field77_0 : fieldB Try.prog 77 0 = some (0, 12) := by kernel_rfl
theorem field77_1 : fieldB Try.prog 77 1 = some (1, 12) := by kernel_rfl
theorem field77_2 : fieldB Try.prog 77 2 = some (2, 70) := by kernel_rfl
theorem field77_3 : fieldB Try.prog 77 3 = some (3, 71) := by kernel_rfl
theorem field77_4 : fieldB Try.prog 77 4 = some (4, 5) := by kernel_rfl
theorem field77_5 : fieldB Try.prog 77 5 = some (5, 5) := by kernel_rfl
theorem field77_6 : fieldB Try.prog 77 6 = some (6, 72) := by kernel_rfl
theorem field77_7 : fieldB Try.prog 77 7 = some (7, 73) := by kernel_rfl
theorem field77_8 : fieldB Try.prog 77 8 = some (8, 74) := by kernel_rfl
theorem field77_9 : fieldB Try.prog 77 9 = some (9, 75) := by kernel_rfl
theorem field77_10 : fieldB Try.prog 77 10 = some (10, 76) := by kernel_rfl
theorem isAgg78 : isAggB Try.prog 78 = some true := by kernel_rfl
theorem tsz78 : (Try.prog.types[78]'(of_decide_eq_true (by kernel_rfl))).size = 11 := by kernel_rfl
theorem size78 : sizeB Try.prog 78 = some 11 := by kernel_rfl
theorem intK78 : intKindB Try.prog 78 = none := by kernel_rfl
theorem elem78 : elemB Try.prog 78 = none := by kernel_rfl
theorem zero78 : zeroC Try.prog 78 = some [.int .u64 0, .int .u64 0, .int .u32 0, .int .u8 0, .int .u8 0, .int .u8 0, .int .u8 0, .nilFunc, .pointer none, .int .i32 0, .int .i32 0] := by kernel_rfl
theorem field78_0 : fieldB Try.prog 78 0 = some (0, 12) := by kernel_rfl
theorem field78_1 : fieldB Try.prog 78 1 = some (1, 12) := by kernel_rfl
theorem field78_2 : fieldB Try.prog 78 2 = some (2, 70) := by kernel_rfl
theorem field78_3 : fieldB Try.prog 78 3 = some (3, 71) := by kernel_rfl
theorem field78_4 : fieldB Try.prog 78 4 = some (4, 5) := by kernel_rfl
theorem field78_5 : fieldB Try.prog 78 5 = some (5, 5) := by kernel_rfl
theorem field78_6 : fieldB Try.prog 78 6 = some (6, 72) := by kernel_rfl
theorem field78_7 : fieldB Try.prog 78 7 = some (7, 73) := by kernel_rfl
theorem field78_8 : fieldB Try.prog 78 8 = some (8, 74) := by kernel_rfl
theorem field78_9 : fieldB Try.prog 78 9 = some (9, 75) := by kernel_rfl
theorem field78_10 : fieldB Try.prog 78 10 = some (10, 76) := by kernel_rfl
theorem fnOk3 : FnOk Try.prog 3 := ⟨_, _, Try.func3, rfl, rfl⟩
theorem fnOk4 : FnOk Try.prog 4 := ⟨_, _, Try.func4, rfl, rfl⟩
theorem fnOk5 : FnOk Try.prog 5 := ⟨_, _, Try.func5, rfl, rfl⟩
theorem fnOk6 : FnOk Try.prog 6 := ⟨_, _, Try.func6, rfl, rfl⟩
theorem fnOk7 : FnOk Try.prog 7 := ⟨_, _, Try.func7, rfl, rfl⟩
theorem fnOk8 : FnOk Try.prog 8 := ⟨_, _, Try.func8, rfl, rfl⟩
theorem fnOk9 : FnOk Try.prog 9 := ⟨_, _, Try.func9, rfl, rfl⟩
theorem fnOk10 : FnOk Try.prog 10 := ⟨_, _, Try.func10, rfl, rfl⟩
theorem fnOk11 : FnOk Try.prog 11 := ⟨_, _, Try.func11, rfl, rfl⟩
theorem fnOk12 : FnOk Try.prog 12 := ⟨_, _, Try.func12, rfl, rfl⟩
theorem fnOk13 : FnOk Try.prog 13 := ⟨_, _, Try.func13, rfl, rfl⟩
theorem fnOk14 : FnOk Try.prog 14 := ⟨_, _, Try.func14, rfl, rfl⟩
theorem fnOk15 : FnOk Try.prog 15 := ⟨_, _, Try.func15, rfl, rfl⟩
theorem fnOk16 : FnOk Try.prog 16 := ⟨_, _, Try.func16, rfl, rfl⟩
theorem fnOk17 : FnOk Try.prog 17 := ⟨_, _, Try.func17, rfl, rfl⟩
theorem fnOk18 : FnOk Try.prog 18 := ⟨_, _, Try.func18, rfl, rfl⟩
theorem fnOk19 : FnOk Try.prog 19 := ⟨_, _, Try.func19, rfl, rfl⟩
theorem fnOk20 : FnOk Try.prog 20 := ⟨_, _, Try.func20, rfl, rfl⟩
theorem fnOk21 : FnOk Try.prog 21 := ⟨_, _, Try.func21, rfl, rfl⟩
theorem fnOk22 : FnOk Try.prog 22 := ⟨_, _, Try.func22, rfl, rfl⟩
theorem fnOk23 : FnOk Try.prog 23 := ⟨_, _, Try.func23, rfl, rfl⟩
theorem fnOk24 : FnOk Try.prog 24 := ⟨_, _, Try.func24, rfl, rfl⟩
theorem fnOk25 : FnOk Try.prog 25 := ⟨_, _, Try.func25, rfl, rfl⟩
theorem fnOk26 : FnOk Try.prog 26 := ⟨_, _, Try.func26, rfl, rfl⟩
theorem fnOk27 : FnOk Try.prog 27 := ⟨_, _, Try.func27, rfl, rfl⟩
theorem fnOk28 : FnOk Try.prog 28 := ⟨_, _, Try.func28, rfl, rfl⟩
theorem fnOk29 : FnOk Try.prog 29 := ⟨_, _, Try.func29, rfl, rfl⟩
theorem fnOk30 : FnOk Try.prog 30 := ⟨_, _, Try.func30, rfl, rfl⟩
theorem fnOk31 : FnOk Try.prog 31 := ⟨_, _, Try.func31, rfl, rfl⟩
theorem fnOk32 : FnOk Try.prog 32 := ⟨_, _, Try.func32, rfl, rfl⟩
theorem fnOk33 : FnOk Try.prog 33 := ⟨_, _, Try.func33, rfl, rfl⟩
theorem fnOk34 : FnOk Try.prog 34 := ⟨_, _, Try.func34, rfl, rfl⟩
theorem fnOk35 : FnOk Try.prog 35 := ⟨_, _, Try.func35, rfl, rfl⟩
theorem fnOk36 : FnOk Try.prog 36 := ⟨_, _, Try.func36, rfl, rfl⟩
end Go.Proofs.Ytgjkbihjpgppbaa
