/- Closed facts on the types of the program, for the walk over plain values. -/
import Derived.Test.YtebknelbppmahaaDoorPw16
import Derived.Test.YtebknelbppmahaaDoorProg
namespace Go.Proofs.YtebknelbppmahaaDoor
open Go Go.RowKit
theorem isAgg2 : isAggB Tryd.prog 2 = some false := by kernel_rfl
theorem tsz2 : (Tryd.prog.types[2]'(of_decide_eq_true (by kernel_rfl))).size = 1 := by kernel_rfl
theorem size2 : sizeB Tryd.prog 2 = some 1 := by kernel_rfl
theorem intK2 : intKindB Tryd.prog 2 = some .i64 := by kernel_rfl
theorem elem2 : elemB Tryd.prog 2 = none := by kernel_rfl
theorem zero2 : zeroC Tryd.prog 2 = some [.int .i64 0] := by kernel_rfl
theorem isAgg3 : isAggB Tryd.prog 3 = some false := by kernel_rfl
theorem tsz3 : (Tryd.prog.types[3]'(of_decide_eq_true (by kernel_rfl))).size = 1 := by kernel_rfl
theorem size3 : sizeB Tryd.prog 3 = some 1 := by kernel_rfl
theorem intK3 : intKindB Tryd.prog 3 = some .i64 := by kernel_rfl
theorem elem3 : elemB Tryd.prog 3 = none := by kernel_rfl
theorem zero3 : zeroC Tryd.prog 3 = some [.int .i64 0] := by kernel_rfl
theorem isAgg4 : isAggB Tryd.prog 4 = some false := by kernel_rfl
theorem tsz4 : (Tryd.prog.types[4]'(of_decide_eq_true (by kernel_rfl))).size = 1 := by kernel_rfl
theorem size4 : sizeB Tryd.prog 4 = some 1 := by kernel_rfl
theorem intK4 : intKindB Tryd.prog 4 = none := by kernel_rfl
theorem elem4 : elemB Tryd.prog 4 = none := by kernel_rfl
theorem und4 : Tryd.prog.underlying 4 = some .bool := by kernel_rfl
theorem zero4 : zeroC Tryd.prog 4 = some [.bool false] := by kernel_rfl
theorem isAgg5 : isAggB Tryd.prog 5 = some false := by kernel_rfl
theorem tsz5 : (Tryd.prog.types[5]'(of_decide_eq_true (by kernel_rfl))).size = 1 := by kernel_rfl
theorem size5 : sizeB Tryd.prog 5 = some 1 := by kernel_rfl
theorem intK5 : intKindB Tryd.prog 5 = some .u8 := by kernel_rfl
theorem elem5 : elemB Tryd.prog 5 = none := by kernel_rfl
theorem und5 : Tryd.prog.underlying 5 = some (.int .u8) := by kernel_rfl
theorem zero5 : zeroC Tryd.prog 5 = some [.int .u8 0] := by kernel_rfl
theorem isAgg6 : isAggB Tryd.prog 6 = some false := by kernel_rfl
theorem tsz6 : (Tryd.prog.types[6]'(of_decide_eq_true (by kernel_rfl))).size = 1 := by kernel_rfl
theorem size6 : sizeB Tryd.prog 6 = some 1 := by kernel_rfl
theorem intK6 : intKindB Tryd.prog 6 = some .u8 := by kernel_rfl
theorem elem6 : elemB Tryd.prog 6 = none := by kernel_rfl
theorem und6 : Tryd.prog.underlying 6 = some (.int .u8) := by kernel_rfl
theorem zero6 : zeroC Tryd.prog 6 = some [.int .u8 0] := by kernel_rfl
theorem isAgg7 : isAggB Tryd.prog 7 = some true := by kernel_rfl
theorem tsz7 : (Tryd.prog.types[7]'(of_decide_eq_true (by kernel_rfl))).size = 4 := by kernel_rfl
theorem size7 : sizeB Tryd.prog 7 = some 4 := by kernel_rfl
theorem intK7 : intKindB Tryd.prog 7 = none := by kernel_rfl
theorem elem7 : elemB Tryd.prog 7 = none := by kernel_rfl
theorem zero7 : zeroC Tryd.prog 7 = some [.int .i64 0, .int .i64 0, .bool false, .int .u8 0] := by kernel_rfl
theorem field7_0 : fieldB Tryd.prog 7 0 = some (0, 2) := by kernel_rfl
theorem field7_1 : fieldB Tryd.prog 7 1 = some (1, 3) := by kernel_rfl
theorem field7_2 : fieldB Tryd.prog 7 2 = some (2, 4) := by kernel_rfl
theorem field7_3 : fieldB Tryd.prog 7 3 = some (3, 6) := by kernel_rfl
theorem places7 : placesOf Tryd.prog 7 = some (fun i => (#[(0, 1), (1, 1), (2, 1), (3, 1)] : Array (Nat × Nat))[i]?) := by kernel_rfl
theorem isAgg8 : isAggB Tryd.prog 8 = some true := by kernel_rfl
theorem tsz8 : (Tryd.prog.types[8]'(of_decide_eq_true (by kernel_rfl))).size = 4 := by kernel_rfl
theorem size8 : sizeB Tryd.prog 8 = some 4 := by kernel_rfl
theorem intK8 : intKindB Tryd.prog 8 = none := by kernel_rfl
theorem elem8 : elemB Tryd.prog 8 = none := by kernel_rfl
theorem zero8 : zeroC Tryd.prog 8 = some [.int .i64 0, .int .i64 0, .bool false, .int .u8 0] := by kernel_rfl
theorem field8_0 : fieldB Tryd.prog 8 0 = some (0, 2) := by kernel_rfl
theorem field8_1 : fieldB Tryd.prog 8 1 = some (1, 3) := by kernel_rfl
theorem field8_2 : fieldB Tryd.prog 8 2 = some (2, 4) := by kernel_rfl
theorem field8_3 : fieldB Tryd.prog 8 3 = some (3, 6) := by kernel_rfl
theorem places8 : placesOf Tryd.prog 8 = some (fun i => (#[(0, 1), (1, 1), (2, 1), (3, 1)] : Array (Nat × Nat))[i]?) := by kernel_rfl
theorem isAgg9 : isAggB Tryd.prog 9 = some false := by kernel_rfl
theorem tsz9 : (Tryd.prog.types[9]'(of_decide_eq_true (by kernel_rfl))).size = 1 := by kernel_rfl
theorem size9 : sizeB Tryd.prog 9 = some 1 := by kernel_rfl
theorem intK9 : intKindB Tryd.prog 9 = none := by kernel_rfl
theorem elem9 : elemB Tryd.prog 9 = none := by kernel_rfl
theorem und9 : Tryd.prog.underlying 9 = some .string := by kernel_rfl
theorem zero9 : zeroC Tryd.prog 9 = some [.string ByteArray.empty] := by kernel_rfl
theorem isAgg10 : isAggB Tryd.prog 10 = some false := by kernel_rfl
theorem tsz10 : (Tryd.prog.types[10]'(of_decide_eq_true (by kernel_rfl))).size = 1 := by kernel_rfl
theorem size10 : sizeB Tryd.prog 10 = some 1 := by kernel_rfl
theorem intK10 : intKindB Tryd.prog 10 = none := by kernel_rfl
theorem elem10 : elemB Tryd.prog 10 = none := by kernel_rfl
theorem und10 : Tryd.prog.underlying 10 = some .string := by kernel_rfl
theorem zero10 : zeroC Tryd.prog 10 = some [.string ByteArray.empty] := by kernel_rfl
theorem isAgg11 : isAggB Tryd.prog 11 = some false := by kernel_rfl
theorem tsz11 : (Tryd.prog.types[11]'(of_decide_eq_true (by kernel_rfl))).size = 1 := by kernel_rfl
theorem size11 : sizeB Tryd.prog 11 = some 1 := by kernel_rfl
theorem intK11 : intKindB Tryd.prog 11 = none := by kernel_rfl
theorem elem11 : elemB Tryd.prog 11 = none := by kernel_rfl
theorem und11 : Tryd.prog.underlying 11 = some .string := by kernel_rfl
theorem zero11 : zeroC Tryd.prog 11 = some [.string ByteArray.empty] := by kernel_rfl
theorem isAgg12 : isAggB Tryd.prog 12 = some false := by kernel_rfl
theorem tsz12 : (Tryd.prog.types[12]'(of_decide_eq_true (by kernel_rfl))).size = 1 := by kernel_rfl
theorem size12 : sizeB Tryd.prog 12 = some 1 := by kernel_rfl
theorem intK12 : intKindB Tryd.prog 12 = some .u64 := by kernel_rfl
theorem elem12 : elemB Tryd.prog 12 = none := by kernel_rfl
theorem zero12 : zeroC Tryd.prog 12 = some [.int .u64 0] := by kernel_rfl
theorem isAgg13 : isAggB Tryd.prog 13 = some true := by kernel_rfl
theorem tsz13 : (Tryd.prog.types[13]'(of_decide_eq_true (by kernel_rfl))).size = 2 := by kernel_rfl
theorem size13 : sizeB Tryd.prog 13 = some 2 := by kernel_rfl
theorem intK13 : intKindB Tryd.prog 13 = none := by kernel_rfl
theorem elem13 : elemB Tryd.prog 13 = none := by kernel_rfl
theorem zero13 : zeroC Tryd.prog 13 = some [.string ByteArray.empty, .int .u64 0] := by kernel_rfl
theorem field13_0 : fieldB Tryd.prog 13 0 = some (0, 9) := by kernel_rfl
theorem field13_1 : fieldB Tryd.prog 13 1 = some (1, 12) := by kernel_rfl
theorem places13 : placesOf Tryd.prog 13 = some (fun i => (#[(0, 1), (1, 1)] : Array (Nat × Nat))[i]?) := by kernel_rfl
theorem isAgg14 : isAggB Tryd.prog 14 = some true := by kernel_rfl
theorem tsz14 : (Tryd.prog.types[14]'(of_decide_eq_true (by kernel_rfl))).size = 2 := by kernel_rfl
theorem size14 : sizeB Tryd.prog 14 = some 2 := by kernel_rfl
theorem intK14 : intKindB Tryd.prog 14 = none := by kernel_rfl
theorem elem14 : elemB Tryd.prog 14 = none := by kernel_rfl
theorem zero14 : zeroC Tryd.prog 14 = some [.string ByteArray.empty, .int .u64 0] := by kernel_rfl
theorem field14_0 : fieldB Tryd.prog 14 0 = some (0, 9) := by kernel_rfl
theorem field14_1 : fieldB Tryd.prog 14 1 = some (1, 12) := by kernel_rfl
theorem places14 : placesOf Tryd.prog 14 = some (fun i => (#[(0, 1), (1, 1)] : Array (Nat × Nat))[i]?) := by kernel_rfl
theorem isAgg18 : isAggB Tryd.prog 18 = some true := by kernel_rfl
theorem tsz18 : (Tryd.prog.types[18]'(of_decide_eq_true (by kernel_rfl))).size = 1 := by kernel_rfl
theorem size18 : sizeB Tryd.prog 18 = some 1 := by kernel_rfl
theorem intK18 : intKindB Tryd.prog 18 = none := by kernel_rfl
theorem elem18 : elemB Tryd.prog 18 = none := by kernel_rfl
theorem zero18 : zeroC Tryd.prog 18 = some [.pointer none] := by kernel_rfl
theorem field18_0 : fieldB Tryd.prog 18 0 = some (0, 17) := by kernel_rfl
theorem isAgg19 : isAggB Tryd.prog 19 = some true := by kernel_rfl
theorem tsz19 : (Tryd.prog.types[19]'(of_decide_eq_true (by kernel_rfl))).size = 1 := by kernel_rfl
theorem size19 : sizeB Tryd.prog 19 = some 1 := by kernel_rfl
theorem intK19 : intKindB Tryd.prog 19 = none := by kernel_rfl
theorem elem19 : elemB Tryd.prog 19 = none := by kernel_rfl
theorem zero19 : zeroC Tryd.prog 19 = some [.pointer none] := by kernel_rfl
theorem field19_0 : fieldB Tryd.prog 19 0 = some (0, 17) := by kernel_rfl
theorem isAgg21 : isAggB Tryd.prog 21 = some false := by kernel_rfl
theorem tsz21 : (Tryd.prog.types[21]'(of_decide_eq_true (by kernel_rfl))).size = 1 := by kernel_rfl
theorem size21 : sizeB Tryd.prog 21 = some 1 := by kernel_rfl
theorem intK21 : intKindB Tryd.prog 21 = some .i32 := by kernel_rfl
theorem elem21 : elemB Tryd.prog 21 = none := by kernel_rfl
theorem zero21 : zeroC Tryd.prog 21 = some [.int .i32 0] := by kernel_rfl
theorem isAgg22 : isAggB Tryd.prog 22 = some false := by kernel_rfl
theorem tsz22 : (Tryd.prog.types[22]'(of_decide_eq_true (by kernel_rfl))).size = 1 := by kernel_rfl
theorem size22 : sizeB Tryd.prog 22 = some 1 := by kernel_rfl
theorem intK22 : intKindB Tryd.prog 22 = none := by kernel_rfl
theorem elem22 : elemB Tryd.prog 22 = some 5 := by kernel_rfl
theorem zero22 : zeroC Tryd.prog 22 = some [.slice none 0 0] := by kernel_rfl
theorem elty22 : eltyB Tryd.prog 22 = some (5, 1, 1, [.int .u8 0]) := by kernel_rfl
theorem isAgg24 : isAggB Tryd.prog 24 = some false := by kernel_rfl
theorem tsz24 : (Tryd.prog.types[24]'(of_decide_eq_true (by kernel_rfl))).size = 1 := by kernel_rfl
theorem size24 : sizeB Tryd.prog 24 = some 1 := by kernel_rfl
theorem intK24 : intKindB Tryd.prog 24 = some .i64 := by kernel_rfl
theorem elem24 : elemB Tryd.prog 24 = none := by kernel_rfl
theorem zero24 : zeroC Tryd.prog 24 = some [.int .i64 0] := by kernel_rfl
theorem isAgg35 : isAggB Tryd.prog 35 = some true := by kernel_rfl
theorem tsz35 : (Tryd.prog.types[35]'(of_decide_eq_true (by kernel_rfl))).size = 16 := by kernel_rfl
theorem size35 : sizeB Tryd.prog 35 = some 16 := by kernel_rfl
theorem intK35 : intKindB Tryd.prog 35 = none := by kernel_rfl
theorem elem35 : elemB Tryd.prog 35 = none := by kernel_rfl
theorem arr35 : arrB Tryd.prog 35 = some (16, 5) := by kernel_rfl
theorem zero35 : zeroC Tryd.prog 35 = some [.int .u8 0, .int .u8 0, .int .u8 0, .int .u8 0, .int .u8 0, .int .u8 0, .int .u8 0, .int .u8 0, .int .u8 0, .int .u8 0, .int .u8 0, .int .u8 0, .int .u8 0, .int .u8 0, .int .u8 0, .int .u8 0] := by kernel_rfl
theorem places35 : placesOf Tryd.prog 35 = some (fun i => some (i * 1, 1)) := by kernel_rfl
theorem isAgg39 : isAggB Tryd.prog 39 = some true := by kernel_rfl
theorem tsz39 : (Tryd.prog.types[39]'(of_decide_eq_true (by kernel_rfl))).size = 32 := by kernel_rfl
theorem size39 : sizeB Tryd.prog 39 = some 32 := by kernel_rfl
theorem intK39 : intKindB Tryd.prog 39 = none := by kernel_rfl
theorem elem39 : elemB Tryd.prog 39 = none := by kernel_rfl
theorem arr39 : arrB Tryd.prog 39 = some (32, 5) := by kernel_rfl
theorem zero39 : zeroC Tryd.prog 39 = some [.int .u8 0, .int .u8 0, .int .u8 0, .int .u8 0, .int .u8 0, .int .u8 0, .int .u8 0, .int .u8 0, .int .u8 0, .int .u8 0, .int .u8 0, .int .u8 0, .int .u8 0, .int .u8 0, .int .u8 0, .int .u8 0, .int .u8 0, .int .u8 0, .int .u8 0, .int .u8 0, .int .u8 0, .int .u8 0, .int .u8 0, .int .u8 0, .int .u8 0, .int .u8 0, .int .u8 0, .int .u8 0, .int .u8 0, .int .u8 0, .int .u8 0, .int .u8 0] := by kernel_rfl
theorem places39 : placesOf Tryd.prog 39 = some (fun i => some (i * 1, 1)) := by kernel_rfl
theorem isAgg48 : isAggB Tryd.prog 48 = some false := by kernel_rfl
theorem tsz48 : (Tryd.prog.types[48]'(of_decide_eq_true (by kernel_rfl))).size = 1 := by kernel_rfl
theorem size48 : sizeB Tryd.prog 48 = some 1 := by kernel_rfl
theorem intK48 : intKindB Tryd.prog 48 = none := by kernel_rfl
theorem elem48 : elemB Tryd.prog 48 = some 22 := by kernel_rfl
theorem zero48 : zeroC Tryd.prog 48 = some [.slice none 0 0] := by kernel_rfl
theorem elty48 : eltyB Tryd.prog 48 = some (22, 1, 24, [.slice none 0 0]) := by kernel_rfl
theorem isAgg50 : isAggB Tryd.prog 50 = some false := by kernel_rfl
theorem tsz50 : (Tryd.prog.types[50]'(of_decide_eq_true (by kernel_rfl))).size = 1 := by kernel_rfl
theorem size50 : sizeB Tryd.prog 50 = some 1 := by kernel_rfl
theorem intK50 : intKindB Tryd.prog 50 = some .u64 := by kernel_rfl
theorem elem50 : elemB Tryd.prog 50 = none := by kernel_rfl
theorem zero50 : zeroC Tryd.prog 50 = some [.int .u64 0] := by kernel_rfl
theorem isAgg51 : isAggB Tryd.prog 51 = some false := by kernel_rfl
theorem tsz51 : (Tryd.prog.types[51]'(of_decide_eq_true (by kernel_rfl))).size = 1 := by kernel_rfl
theorem size51 : sizeB Tryd.prog 51 = some 1 := by kernel_rfl
theorem intK51 : intKindB Tryd.prog 51 = some .u64 := by kernel_rfl
theorem elem51 : elemB Tryd.prog 51 = none := by kernel_rfl
theorem zero51 : zeroC Tryd.prog 51 = some [.int .u64 0] := by kernel_rfl
theorem isAgg54 : isAggB Tryd.prog 54 = some false := by kernel_rfl
theorem tsz54 : (Tryd.prog.types[54]'(of_decide_eq_true (by kernel_rfl))).size = 1 := by kernel_rfl
theorem size54 : sizeB Tryd.prog 54 = some 1 := by kernel_rfl
theorem intK54 : intKindB Tryd.prog 54 = some .u32 := by kernel_rfl
theorem elem54 : elemB Tryd.prog 54 = none := by kernel_rfl
theorem zero54 : zeroC Tryd.prog 54 = some [.int .u32 0] := by kernel_rfl
theorem isAgg55 : isAggB Tryd.prog 55 = some true := by kernel_rfl
theorem tsz55 : (Tryd.prog.types[55]'(of_decide_eq_true (by kernel_rfl))).size = 8 := by kernel_rfl
theorem size55 : sizeB Tryd.prog 55 = some 8 := by kernel_rfl
theorem intK55 : intKindB Tryd.prog 55 = none := by kernel_rfl
theorem elem55 : elemB Tryd.prog 55 = none := by kernel_rfl
theorem arr55 : arrB Tryd.prog 55 = some (8, 54) := by kernel_rfl
theorem zero55 : zeroC Tryd.prog 55 = some [.int .u32 0, .int .u32 0, .int .u32 0, .int .u32 0, .int .u32 0, .int .u32 0, .int .u32 0, .int .u32 0] := by kernel_rfl
theorem places55 : placesOf Tryd.prog 55 = some (fun i => some (i * 1, 1)) := by kernel_rfl
theorem isAgg60 : isAggB Tryd.prog 60 = some true := by kernel_rfl
theorem tsz60 : (Tryd.prog.types[60]'(of_decide_eq_true (by kernel_rfl))).size = 64 := by kernel_rfl
theorem size60 : sizeB Tryd.prog 60 = some 64 := by kernel_rfl
theorem intK60 : intKindB Tryd.prog 60 = none := by kernel_rfl
theorem elem60 : elemB Tryd.prog 60 = none := by kernel_rfl
theorem arr60 : arrB Tryd.prog 60 = some (64, 54) := by kernel_rfl
theorem zero60 : zeroC Tryd.prog 60 = some [.int .u32 0, .int .u32 0, .int .u32 0, .int .u32 0, .int .u32 0, .int .u32 0, .int .u32 0, .int .u32 0, .int .u32 0, .int .u32 0, .int .u32 0, .int .u32 0, .int .u32 0, .int .u32 0, .int .u32 0, .int .u32 0, .int .u32 0, .int .u32 0, .int .u32 0, .int .u32 0, .int .u32 0, .int .u32 0, .int .u32 0, .int .u32 0, .int .u32 0, .int .u32 0, .int .u32 0, .int .u32 0, .int .u32 0, .int .u32 0, .int .u32 0, .int .u32 0, .int .u32 0, .int .u32 0, .int .u32 0, .int .u32 0, .int .u32 0, .int .u32 0, .int .u32 0, .int .u32 0, .int .u32 0, .int .u32 0, .int .u32 0, .int .u32 0, .int .u32 0, .int .u32 0, .int .u32 0, .int .u32 0, .int .u32 0, .int .u32 0, .int .u32 0, .int .u32 0, .int .u32 0, .int .u32 0, .int .u32 0, .int .u32 0, .int .u32 0, .int .u32 0, .int .u32 0, .int .u32 0, .int .u32 0, .int .u32 0, .int .u32 0, .int .u32 0] := by kernel_rfl
theorem places60 : placesOf Tryd.prog 60 = some (fun i => some (i * 1, 1)) := by kernel_rfl
theorem isAgg66 : isAggB Tryd.prog 66 = some false := by kernel_rfl
theorem tsz66 : (Tryd.prog.types[66]'(of_decide_eq_true (by kernel_rfl))).size = 1 := by kernel_rfl
theorem size66 : sizeB Tryd.prog 66 = some 1 := by kernel_rfl
theorem intK66 : intKindB Tryd.prog 66 = none := by kernel_rfl
theorem elem66 : elemB Tryd.prog 66 = some 54 := by kernel_rfl
theorem zero66 : zeroC Tryd.prog 66 = some [.slice none 0 0] := by kernel_rfl
theorem elty66 : eltyB Tryd.prog 66 = some (54, 1, 4, [.int .u32 0]) := by kernel_rfl
theorem isAgg70 : isAggB Tryd.prog 70 = some true := by kernel_rfl
theorem tsz70 : (Tryd.prog.types[70]'(of_decide_eq_true (by kernel_rfl))).size = 4 := by kernel_rfl
theorem size70 : sizeB Tryd.prog 70 = some 4 := by kernel_rfl
theorem intK70 : intKindB Tryd.prog 70 = none := by kernel_rfl
theorem elem70 : elemB Tryd.prog 70 = none := by kernel_rfl
theorem zero70 : zeroC Tryd.prog 70 = some [.pointer none, .pointer none, .pointer none, .string ByteArray.empty] := by kernel_rfl
theorem field70_0 : fieldB Tryd.prog 70 0 = some (0, 17) := by kernel_rfl
theorem field70_1 : fieldB Tryd.prog 70 1 = some (1, 17) := by kernel_rfl
theorem field70_2 : fieldB Tryd.prog 70 2 = some (2, 17) := by kernel_rfl
theorem field70_3 : fieldB Tryd.prog 70 3 = some (3, 9) := by kernel_rfl
theorem isAgg71 : isAggB Tryd.prog 71 = some true := by kernel_rfl
theorem tsz71 : (Tryd.prog.types[71]'(of_decide_eq_true (by kernel_rfl))).size = 4 := by kernel_rfl
theorem size71 : sizeB Tryd.prog 71 = some 4 := by kernel_rfl
theorem intK71 : intKindB Tryd.prog 71 = none := by kernel_rfl
theorem elem71 : elemB Tryd.prog 71 = none := by kernel_rfl
theorem zero71 : zeroC Tryd.prog 71 = some [.pointer none, .pointer none, .pointer none, .string ByteArray.empty] := by kernel_rfl
theorem field71_0 : fieldB Tryd.prog 71 0 = some (0, 17) := by kernel_rfl
theorem field71_1 : fieldB Tryd.prog 71 1 = some (1, 17) := by kernel_rfl
theorem field71_2 : fieldB Tryd.prog 71 2 = some (2, 17) := by kernel_rfl
theorem field71_3 : fieldB Tryd.prog 71 3 = some (3, 9) := by kernel_rfl
theorem isAgg72 : isAggB Tryd.prog 72 = some true := by kernel_rfl
theorem tsz72 : (Tryd.prog.types[72]'(of_decide_eq_true (by kernel_rfl))).size = 0 := by kernel_rfl
theorem size72 : sizeB Tryd.prog 72 = some 0 := by kernel_rfl
theorem intK72 : intKindB Tryd.prog 72 = none := by kernel_rfl
theorem elem72 : elemB Tryd.prog 72 = none := by kernel_rfl
theorem arr72 : arrB Tryd.prog 72 = some (0, 16) := by kernel_rfl
theorem zero72 : zeroC Tryd.prog 72 = some [] := by kernel_rfl
theorem isAgg73 : isAggB Tryd.prog 73 = some true := by kernel_rfl
theorem tsz73 : (Tryd.prog.types[73]'(of_decide_eq_true (by kernel_rfl))).size = 0 := by kernel_rfl
theorem size73 : sizeB Tryd.prog 73 = some 0 := by kernel_rfl
theorem intK73 : intKindB Tryd.prog 73 = none := by kernel_rfl
theorem elem73 : elemB Tryd.prog 73 = none := by kernel_rfl
theorem zero73 : zeroC Tryd.prog 73 = some [] := by kernel_rfl
theorem field73_0 : fieldB Tryd.prog 73 0 = some (0, 72) := by kernel_rfl
theorem places73 : placesOf Tryd.prog 73 = some (fun i => (#[(0, 0)] : Array (Nat × Nat))[i]?) := by kernel_rfl
theorem isAgg74 : isAggB Tryd.prog 74 = some true := by kernel_rfl
theorem tsz74 : (Tryd.prog.types[74]'(of_decide_eq_true (by kernel_rfl))).size = 0 := by kernel_rfl
theorem size74 : sizeB Tryd.prog 74 = some 0 := by kernel_rfl
theorem intK74 : intKindB Tryd.prog 74 = none := by kernel_rfl
theorem elem74 : elemB Tryd.prog 74 = none := by kernel_rfl
theorem zero74 : zeroC Tryd.prog 74 = some [] := by kernel_rfl
theorem field74_0 : fieldB Tryd.prog 74 0 = some (0, 72) := by kernel_rfl
theorem places74 : placesOf Tryd.prog 74 = some (fun i => (#[(0, 0)] : Array (Nat × Nat))[i]?) := by kernel_rfl
theorem isAgg76 : isAggB Tryd.prog 76 = some false := by kernel_rfl
theorem tsz76 : (Tryd.prog.types[76]'(of_decide_eq_true (by kernel_rfl))).size = 1 := by kernel_rfl
theorem size76 : sizeB Tryd.prog 76 = some 1 := by kernel_rfl
theorem intK76 : intKindB Tryd.prog 76 = some .u8 := by kernel_rfl
theorem elem76 : elemB Tryd.prog 76 = none := by kernel_rfl
theorem und76 : Tryd.prog.underlying 76 = some (.int .u8) := by kernel_rfl
theorem zero76 : zeroC Tryd.prog 76 = some [.int .u8 0] := by kernel_rfl
theorem isAgg77 : isAggB Tryd.prog 77 = some false := by kernel_rfl
theorem tsz77 : (Tryd.prog.types[77]'(of_decide_eq_true (by kernel_rfl))).size = 1 := by kernel_rfl
theorem size77 : sizeB Tryd.prog 77 = some 1 := by kernel_rfl
theorem intK77 : intKindB Tryd.prog 77 = some .u8 := by kernel_rfl
theorem elem77 : elemB Tryd.prog 77 = none := by kernel_rfl
theorem und77 : Tryd.prog.underlying 77 = some (.int .u8) := by kernel_rfl
theorem zero77 : zeroC Tryd.prog 77 = some [.int .u8 0] := by kernel_rfl
theorem isAgg80 : isAggB Tryd.prog 80 = some false := by kernel_rfl
theorem tsz80 : (Tryd.prog.types[80]'(of_decide_eq_true (by kernel_rfl))).size = 1 := by kernel_rfl
theorem size80 : sizeB Tryd.prog 80 = some 1 := by kernel_rfl
theorem intK80 : intKindB Tryd.prog 80 = some .i32 := by kernel_rfl
theorem elem80 : elemB Tryd.prog 80 = none := by kernel_rfl
theorem zero80 : zeroC Tryd.prog 80 = some [.int .i32 0] := by kernel_rfl
theorem isAgg81 : isAggB Tryd.prog 81 = some false := by kernel_rfl
theorem tsz81 : (Tryd.prog.types[81]'(of_decide_eq_true (by kernel_rfl))).size = 1 := by kernel_rfl
theorem size81 : sizeB Tryd.prog 81 = some 1 := by kernel_rfl
theorem intK81 : intKindB Tryd.prog 81 = some .i32 := by kernel_rfl
theorem elem81 : elemB Tryd.prog 81 = none := by kernel_rfl
theorem zero81 : zeroC Tryd.prog 81 = some [.int .i32 0] := by kernel_rfl
theorem isAgg82 : isAggB Tryd.prog 82 = some true := by kernel_rfl
theorem tsz82 : (Tryd.prog.types[82]'(of_decide_eq_true (by kernel_rfl))).size = 11 := by kernel_rfl
theorem size82 : sizeB Tryd.prog 82 = some 11 := by kernel_rfl
theorem intK82 : intKindB Tryd.prog 82 = none := by kernel_rfl
theorem elem82 : elemB Tryd.prog 82 = none := by kernel_rfl
theorem zero82 : zeroC Tryd.prog 82 = some [.int .u64 0, .int .u64 0, .int .u32 0, .int .u8 0, .int .u8 0, .int .u8 0, .int .u8 0, .nilFunc, .pointer none, .int .i32 0, .int .i32 0] := by kernel_rfl
theorem field82_0 : fieldB Tryd.prog 82 0 = some (0, 12) := by kernel_rfl
theorem field82_1 : fieldB Tryd.prog 82 1 = some (1, 12) := by kernel_rfl
theorem field82_2 : fieldB Tryd.prog 82 2 = some (2, 54) := by kernel_rfl
theorem field82_3 : fieldB Tryd.prog 82 3 = some (3, 76) := by kernel_rfl
theorem field82_4 : fieldB Tryd.prog 82 4 = some (4, 5) := by kernel_rfl
theorem field82_5 : fieldB Tryd.prog 82 5 = some (5, 5) := by kernel_rfl
theorem field82_6 : fieldB Tryd.prog 82 6 = some (6, 77) := by kernel_rfl
theorem field82_7 : fieldB Tryd.prog 82 7 = some (7, 78) := by kernel_rfl
theorem field82_8 : fieldB Tryd.prog 82 8 = some (8, 79) := by kernel_rfl
theorem field82_9 : fieldB Tryd.prog 82 9 = some (9, 80) := by kernel_rfl
theorem field82_10 : fieldB Tryd.prog 82 10 = some (10, 81) := by kernel_rfl
theorem isAgg83 : isAggB Tryd.prog 83 = some true := by kernel_rfl
theorem tsz83 : (Tryd.prog.types[83]'(of_decide_eq_true (by kernel_rfl))).size = 11 := by kernel_rfl
theorem size83 : sizeB Tryd.prog 83 = some 11 := by kernel_rfl
theorem intK83 : intKindB Tryd.prog 83 = none := by kernel_rfl
theorem elem83 : elemB Tryd.prog 83 = none := by kernel_rfl
theorem zero83 : zeroC Tryd.prog 83 = some [.int .u64 0, .int .u64 0, .int .u32 0, .int .u8 0, .int .u8 0, .int .u8 0, .int .u8 0, .nilFunc, .pointer none, .int .i32 0, .int .i32 0] := by kernel_rfl
theorem field83_0 : fieldB Tryd.prog 83 0 = some (0, 12) := by kernel_rfl
theorem field83_1 : fieldB Tryd.prog 83 1 = some (1, 12) := by kernel_rfl
theorem field83_2 : fieldB Tryd.prog 83 2 = some (2, 54) := by kernel_rfl
theorem field83_3 : fieldB Tryd.prog 83 3 = some (3, 76) := by kernel_rfl
theorem field83_4 : fieldB Tryd.prog 83 4 = some (4, 5) := by kernel_rfl
theorem field83_5 : fieldB Tryd.prog 83 5 = some (5, 5) := by kernel_rfl
theorem field83_6 : fieldB Tryd.prog 83 6 = some (6, 77) := by kernel_rfl
theorem field83_7 : fieldB Tryd.prog 83 7 = some (7, 78) := by kernel_rfl
theorem field83_8 : fieldB Tryd.prog 83 8 = some (8, 79) := by kernel_rfl
theorem field83_9 : fieldB Tryd.prog 83 9 = some (9, 80) := by kernel_rfl
theorem field83_10 : fieldB Tryd.prog 83 10 = some (10, 81) := by kernel_rfl
theorem fnOk3 : FnOk Tryd.prog 3 := ⟨_, _, Tryd.func3, rfl, rfl⟩
theorem fnOk4 : FnOk Tryd.prog 4 := ⟨_, _, Tryd.func4, rfl, rfl⟩
theorem fnOk5 : FnOk Tryd.prog 5 := ⟨_, _, Tryd.func5, rfl, rfl⟩
theorem fnOk6 : FnOk Tryd.prog 6 := ⟨_, _, Tryd.func6, rfl, rfl⟩
theorem fnOk7 : FnOk Tryd.prog 7 := ⟨_, _, Tryd.func7, rfl, rfl⟩
theorem fnOk8 : FnOk Tryd.prog 8 := ⟨_, _, Tryd.func8, rfl, rfl⟩
theorem fnOk9 : FnOk Tryd.prog 9 := ⟨_, _, Tryd.func9, rfl, rfl⟩
theorem fnOk10 : FnOk Tryd.prog 10 := ⟨_, _, Tryd.func10, rfl, rfl⟩
theorem fnOk11 : FnOk Tryd.prog 11 := ⟨_, _, Tryd.func11, rfl, rfl⟩
theorem fnOk12 : FnOk Tryd.prog 12 := ⟨_, _, Tryd.func12, rfl, rfl⟩
theorem fnOk13 : FnOk Tryd.prog 13 := ⟨_, _, Tryd.func13, rfl, rfl⟩
theorem fnOk14 : FnOk Tryd.prog 14 := ⟨_, _, Tryd.func14, rfl, rfl⟩
theorem fnOk15 : FnOk Tryd.prog 15 := ⟨_, _, Tryd.func15, rfl, rfl⟩
theorem fnOk16 : FnOk Tryd.prog 16 := ⟨_, _, Tryd.func16, rfl, rfl⟩
theorem fnOk17 : FnOk Tryd.prog 17 := ⟨_, _, Tryd.func17, rfl, rfl⟩
theorem fnOk18 : FnOk Tryd.prog 18 := ⟨_, _, Tryd.func18, rfl, rfl⟩
theorem fnOk19 : FnOk Tryd.prog 19 := ⟨_, _, Tryd.func19, rfl, rfl⟩
theorem fnOk20 : FnOk Tryd.prog 20 := ⟨_, _, Tryd.func20, rfl, rfl⟩
theorem fnOk21 : FnOk Tryd.prog 21 := ⟨_, _, Tryd.func21, rfl, rfl⟩
theorem fnOk22 : FnOk Tryd.prog 22 := ⟨_, _, Tryd.func22, rfl, rfl⟩
theorem fnOk23 : FnOk Tryd.prog 23 := ⟨_, _, Tryd.func23, rfl, rfl⟩
theorem fnOk24 : FnOk Tryd.prog 24 := ⟨_, _, Tryd.func24, rfl, rfl⟩
theorem fnOk25 : FnOk Tryd.prog 25 := ⟨_, _, Tryd.func25, rfl, rfl⟩
theorem fnOk26 : FnOk Tryd.prog 26 := ⟨_, _, Tryd.func26, rfl, rfl⟩
theorem fnOk27 : FnOk Tryd.prog 27 := ⟨_, _, Tryd.func27, rfl, rfl⟩
theorem fnOk28 : FnOk Tryd.prog 28 := ⟨_, _, Tryd.func28, rfl, rfl⟩
theorem fnOk29 : FnOk Tryd.prog 29 := ⟨_, _, Tryd.func29, rfl, rfl⟩
theorem fnOk30 : FnOk Tryd.prog 30 := ⟨_, _, Tryd.func30, rfl, rfl⟩
theorem fnOk31 : FnOk Tryd.prog 31 := ⟨_, _, Tryd.func31, rfl, rfl⟩
theorem fnOk32 : FnOk Tryd.prog 32 := ⟨_, _, Tryd.func32, rfl, rfl⟩
theorem fnOk33 : FnOk Tryd.prog 33 := ⟨_, _, Tryd.func33, rfl, rfl⟩
theorem fnOk34 : FnOk Tryd.prog 34 := ⟨_, _, Tryd.func34, rfl, rfl⟩
theorem fnOk35 : FnOk Tryd.prog 35 := ⟨_, _, Tryd.func35, rfl, rfl⟩
theorem fnOk36 : FnOk Tryd.prog 36 := ⟨_, _, Tryd.func36, rfl, rfl⟩
theorem fnOk37 : FnOk Tryd.prog 37 := ⟨_, _, Tryd.func37, rfl, rfl⟩
theorem fnOk38 : FnOk Tryd.prog 38 := ⟨_, _, Tryd.func38, rfl, rfl⟩
theorem fnOk39 : FnOk Tryd.prog 39 := ⟨_, _, Tryd.func39, rfl, rfl⟩
theorem fnOk40 : FnOk Tryd.prog 40 := ⟨_, _, Tryd.func40, rfl, rfl⟩
theorem fnOk41 : FnOk Tryd.prog 41 := ⟨_, _, Tryd.func41, rfl, rfl⟩
theorem fnOk42 : FnOk Tryd.prog 42 := ⟨_, _, Tryd.func42, rfl, rfl⟩
theorem fnOk43 : FnOk Tryd.prog 43 := ⟨_, _, Tryd.func43, rfl, rfl⟩
theorem fnOk44 : FnOk Tryd.prog 44 := ⟨_, _, Tryd.func44, rfl, rfl⟩
theorem fnOk45 : FnOk Tryd.prog 45 := ⟨_, _, Tryd.func45, rfl, rfl⟩
theorem fnOk46 : FnOk Tryd.prog 46 := ⟨_, _, Tryd.func46, rfl, rfl⟩
theorem fnOk47 : FnOk Tryd.prog 47 := ⟨_, _, Tryd.func47, rfl, rfl⟩
theorem fnOk48 : FnOk Tryd.prog 48 := ⟨_, _, Tryd.func48, rfl, rfl⟩
theorem fnOk49 : FnOk Tryd.prog 49 := ⟨_, _, Tryd.func49, rfl, rfl⟩
theorem fnOk50 : FnOk Tryd.prog 50 := ⟨_, _, Tryd.func50, rfl, rfl⟩
theorem fnOk51 : FnOk Tryd.prog 51 := ⟨_, _, Tryd.func51, rfl, rfl⟩
theorem fnOk52 : FnOk Tryd.prog 52 := ⟨_, _, Tryd.func52, rfl, rfl⟩
theorem fnOk53 : FnOk Tryd.prog 53 := ⟨_, _, Tryd.func53, rfl, rfl⟩
theorem fnOk54 : FnOk Tryd.prog 54 := ⟨_, _, Tryd.func54, rfl, rfl⟩
theorem fnOk55 : FnOk Tryd.prog 55 := ⟨_, _, Tryd.func55, rfl, rfl⟩
theorem fnOk56 : FnOk Tryd.prog 56 := ⟨_, _, Tryd.func56, rfl, rfl⟩
theorem fnOk57 : FnOk Tryd.prog 57 := ⟨_, _, Tryd.func57, rfl, rfl⟩
theorem fnOk58 : FnOk Tryd.prog 58 := ⟨_, _, Tryd.func58, rfl, rfl⟩
theorem fnOk59 : FnOk Tryd.prog 59 := ⟨_, _, Tryd.func59, rfl, rfl⟩
theorem fnOk60 : FnOk Tryd.prog 60 := ⟨_, _, Tryd.func60, rfl, rfl⟩
theorem fnOk61 : FnOk Tryd.prog 61 := ⟨_, _, Tryd.func61, rfl, rfl⟩
theorem fnOk62 : FnOk Tryd.prog 62 := ⟨_, _, Tryd.func62, rfl, rfl⟩
theorem fnOk63 : FnOk Tryd.prog 63 := ⟨_, _, Tryd.func63, rfl, rfl⟩
theorem fnOk64 : FnOk Tryd.prog 64 := ⟨_, _, Tryd.func64, rfl, rfl⟩
theorem fnOk65 : FnOk Tryd.prog 65 := ⟨_, _, Tryd.func65, rfl, rfl⟩
theorem fnOk66 : FnOk Tryd.prog 66 := ⟨_, _, Tryd.func66, rfl, rfl⟩
end Go.Proofs.YtebknelbppmahaaDoor
