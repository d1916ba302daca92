/- Closed facts on the types of the program, for the walk over plain values. -/
import Derived.Test.YtmmlffffphgjbaaDoorPw16
import Derived.Test.YtmmlffffphgjbaaDoorProg
namespace Go.Proofs.YtmmlffffphgjbaaDoor
open Go Go.RowKit
theorem isAgg2 : isAggB Tryd.prog 2 = some false := by kernel_rfl
theorem tsz2 : (Tryd.prog.types[2]'(of_decide_eq_true (by kernel_rfl))).size = 1 := by kernel_rfl
theorem size2 : sizeB Tryd.prog 2 = some 1 := by kernel_rfl
theorem intK2 : intKindB Tryd.prog 2 = some .i64 := by kernel_rfl
theorem elem2 : elemB Tryd.prog 2 = none := by kernel_rfl
theorem zero2 : zeroC Tryd.prog 2 = some [.int .i64 0] := by kernel_rfl
theorem isAgg3 : isAggB Tryd.prog 3 = some false := by kernel_rfl
theorem tsz3 : (Tryd.prog.types[3]'(of_decide_eq_true (by kernel_rfl))).size = 1 := by kernel_rfl
theorem size3 : sizeB Tryd.prog 3 = some 1 := by kernel_rfl
theorem intK3 : intKindB Tryd.prog 3 = some .i64 := by kernel_rfl
theorem elem3 : elemB Tryd.prog 3 = none := by kernel_rfl
theorem zero3 : zeroC Tryd.prog 3 = some [.int .i64 0] := by kernel_rfl
theorem isAgg4 : isAggB Tryd.prog 4 = some false := by kernel_rfl
theorem tsz4 : (Tryd.prog.types[4]'(of_decide_eq_true (by kernel_rfl))).size = 1 := by kernel_rfl
theorem size4 : sizeB Tryd.prog 4 = some 1 := by kernel_rfl
theorem intK4 : intKindB Tryd.prog 4 = none := by kernel_rfl
theorem elem4 : elemB Tryd.prog 4 = none := by kernel_rfl
theorem und4 : Tryd.prog.underlying 4 = some .bool := by kernel_rfl
theorem zero4 : zeroC Tryd.prog 4 = some [.bool false] := by kernel_rfl
theorem isAgg5 : isAggB Tryd.prog 5 = some false := by kernel_rfl
theorem tsz5 : (Tryd.prog.types[5]'(of_decide_eq_true (by kernel_rfl))).size = 1 := by kernel_rfl
theorem size5 : sizeB Tryd.prog 5 = some 1 := by kernel_rfl
theorem intK5 : intKindB Tryd.prog 5 = some .u8 := by kernel_rfl
theorem elem5 : elemB Tryd.prog 5 = none := by kernel_rfl
theorem und5 : Tryd.prog.underlying 5 = some (.int .u8) := by kernel_rfl
theorem zero5 : zeroC Tryd.prog 5 = some [.int .u8 0] := by kernel_rfl
theorem isAgg6 : isAggB Tryd.prog 6 = some false := by kernel_rfl
theorem tsz6 : (Tryd.prog.types[6]'(of_decide_eq_true (by kernel_rfl))).size = 1 := by kernel_rfl
theorem size6 : sizeB Tryd.prog 6 = some 1 := by kernel_rfl
theorem intK6 : intKindB Tryd.prog 6 = some .u8 := by kernel_rfl
theorem elem6 : elemB Tryd.prog 6 = none := by kernel_rfl
theorem und6 : Tryd.prog.underlying 6 = some (.int .u8) := by kernel_rfl
theorem zero6 : zeroC Tryd.prog 6 = some [.int .u8 0] := by kernel_rfl
theorem isAgg7 : isAggB Tryd.prog 7 = some true := by kernel_rfl
theorem tsz7 : (Tryd.prog.types[7]'(of_decide_eq_true (by kernel_rfl))).size = 4 := by kernel_rfl
theorem size7 : sizeB Tryd.prog 7 = some 4 := by kernel_rfl
theorem intK7 : intKindB Tryd.prog 7 = none := by kernel_rfl
theorem elem7 : elemB Tryd.prog 7 = none := by kernel_rfl
theorem zero7 : zeroC Tryd.prog 7 = some [.int .i64 0, .int .i64 0, .bool false, .int .u8 0] := by kernel_rfl
theorem field7_0 : fieldB Tryd.prog 7 0 = some (0, 2) := by kernel_rfl
theorem field7_1 : fieldB Tryd.prog 7 1 = some (1, 3) := by kernel_rfl
theorem field7_2 : fieldB Tryd.prog 7 2 = some (2, 4) := by kernel_rfl
theorem field7_3 : fieldB Tryd.prog 7 3 = some (3, 6) := by kernel_rfl
theorem places7 : placesOf Tryd.prog 7 = some (fun i => (#[(0, 1), (1, 1), (2, 1), (3, 1)] : Array (Nat × Nat))[i]?) := by kernel_rfl
theorem isAgg8 : isAggB Tryd.prog 8 = some true := by kernel_rfl
theorem tsz8 : (Tryd.prog.types[8]'(of_decide_eq_true (by kernel_rfl))).size = 4 := by kernel_rfl
theorem size8 : sizeB Tryd.prog 8 = some 4 := by kernel_rfl
theorem intK8 : intKindB Tryd.prog 8 = none := by kernel_rfl
theorem elem8 : elemB Tryd.prog 8 = none := by kernel_rfl
theorem zero8 : zeroC Tryd.prog 8 = some [.int .i64 0, .int .i64 0, .bool false, .int .u8 0] := by kernel_rfl
theorem field8_0 : fieldB Tryd.prog 8 0 = some (0, 2) := by kernel_rfl
theorem field8_1 : fieldB Tryd.prog 8 1 = some (1, 3) := by kernel_rfl
theorem field8_2 : fieldB Tryd.prog 8 2 = some (2, 4) := by kernel_rfl
theorem field8_3 : fieldB Tryd.prog 8 3 = some (3, 6) := by kernel_rfl
theorem places8 : placesOf Tryd.prog 8 = some (fun i => (#[(0, 1), (1, 1), (2, 1), (3, 1)] : Array (Nat × Nat))[i]?) := by kernel_rfl
theorem isAgg9 : isAggB Tryd.prog 9 = some false := by kernel_rfl
theorem tsz9 : (Tryd.prog.types[9]'(of_decide_eq_true (by kernel_rfl))).size = 1 := by kernel_rfl
theorem size9 : sizeB Tryd.prog 9 = some 1 := by kernel_rfl
theorem intK9 : intKindB Tryd.prog 9 = none := by kernel_rfl
theorem elem9 : elemB Tryd.prog 9 = none := by kernel_rfl
theorem und9 : Tryd.prog.underlying 9 = some .string := by kernel_rfl
theorem zero9 : zeroC Tryd.prog 9 = some [.string ByteArray.empty] := by kernel_rfl
theorem isAgg10 : isAggB Tryd.prog 10 = some false := by kernel_rfl
theorem tsz10 : (Tryd.prog.types[10]'(of_decide_eq_true (by kernel_rfl))).size = 1 := by kernel_rfl
theorem size10 : sizeB Tryd.prog 10 = some 1 := by kernel_rfl
theorem intK10 : intKindB Tryd.prog 10 = none := by kernel_rfl
theorem elem10 : elemB Tryd.prog 10 = none := by kernel_rfl
theorem und10 : Tryd.prog.underlying 10 = some .string := by kernel_rfl
theorem zero10 : zeroC Tryd.prog 10 = some [.string ByteArray.empty] := by kernel_rfl
theorem isAgg11 : isAggB Tryd.prog 11 = some false := by kernel_rfl
theorem tsz11 : (Tryd.prog.types[11]'(of_decide_eq_true (by kernel_rfl))).size = 1 := by kernel_rfl
theorem size11 : sizeB Tryd.prog 11 = some 1 := by kernel_rfl
theorem intK11 : intKindB Tryd.prog 11 = none := by kernel_rfl
theorem elem11 : elemB Tryd.prog 11 = none := by kernel_rfl
theorem und11 : Tryd.prog.underlying 11 = some .string := by kernel_rfl
theorem zero11 : zeroC Tryd.prog 11 = some [.string ByteArray.empty] := by kernel_rfl
theorem isAgg12 : isAggB Tryd.prog 12 = some false := by kernel_rfl
theorem tsz12 : (Tryd.prog.types[12]'(of_decide_eq_true (by kernel_rfl))).size = 1 := by kernel_rfl
theorem size12 : sizeB Tryd.prog 12 = some 1 := by kernel_rfl
theorem intK12 : intKindB Tryd.prog 12 = some .u64 := by kernel_rfl
theorem elem12 : elemB Tryd.prog 12 = none := by kernel_rfl
theorem zero12 : zeroC Tryd.prog 12 = some [.int .u64 0] := by kernel_rfl
theorem isAgg13 : isAggB Tryd.prog 13 = some true := by kernel_rfl
theorem tsz13 : (Tryd.prog.types[13]'(of_decide_eq_true (by kernel_rfl))).size = 2 := by kernel_rfl
theorem size13 : sizeB Tryd.prog 13 = some 2 := by kernel_rfl
theorem intK13 : intKindB Tryd.prog 13 = none := by kernel_rfl
theorem elem13 : elemB Tryd.prog 13 = none := by kernel_rfl
theorem zero13 : zeroC Tryd.prog 13 = some [.string ByteArray.empty, .int .u64 0] := by kernel_rfl
theorem field13_0 : fieldB Tryd.prog 13 0 = some (0, 9) := by kernel_rfl
theorem field13_1 : fieldB Tryd.prog 13 1 = some (1, 12) := by kernel_rfl
theorem places13 : placesOf Tryd.prog 13 = some (fun i => (#[(0, 1), (1, 1)] : Array (Nat × Nat))[i]?) := by kernel_rfl
theorem isAgg14 : isAggB Tryd.prog 14 = some true := by kernel_rfl
theorem tsz14 : (Tryd.prog.types[14]'(of_decide_eq_true (by kernel_rfl))).size = 2 := by kernel_rfl
theorem size14 : sizeB Tryd.prog 14 = some 2 := by kernel_rfl
theorem intK14 : intKindB Tryd.prog 14 = none := by kernel_rfl
theorem elem14 : elemB Tryd.prog 14 = none := by kernel_rfl
theorem zero14 : zeroC Tryd.prog 14 = some [.string ByteArray.empty, .int .u64 0] := by kernel_rfl
theorem field14_0 : fieldB Tryd.prog 14 0 = some (0, 9) := by kernel_rfl
theorem field14_1 : fieldB Tryd.prog 14 1 = some (1, 12) := by kernel_rfl
theorem places14 : placesOf Tryd.prog 14 = some (fun i => (#[(0, 1), (1, 1)] : Array (Nat × Nat))[i]?) := by kernel_rfl
theorem isAgg18 : isAggB Tryd.prog 18 = some true := by kernel_rfl
theorem tsz18 : (Tryd.prog.types[18]'(of_decide_eq_true (by kernel_rfl))).size = 1 := by kernel_rfl
theorem size18 : sizeB Tryd.prog 18 = some 1 := by kernel_rfl
theorem intK18 : intKindB Tryd.prog 18 = none := by kernel_rfl
theorem elem18 : elemB Tryd.prog 18 = none := by kernel_rfl
theorem zero18 : zeroC Tryd.prog 18 = some [.pointer none] := by kernel_rfl
theorem field18_0 : fieldB Tryd.prog 18 0 = some (0, 17) := by kernel_rfl
theorem isAgg19 : isAggB Tryd.prog 19 = some true := by kernel_rfl
theorem tsz19 : (Tryd.prog.types[19]'(of_decide_eq_true (by kernel_rfl))).size = 1 := by kernel_rfl
theorem size19 : sizeB Tryd.prog 19 = some 1 := by kernel_rfl
theorem intK19 : intKindB Tryd.prog 19 = none := by kernel_rfl
theorem elem19 : elemB Tryd.prog 19 = none := by kernel_rfl
theorem zero19 : zeroC Tryd.prog 19 = some [.pointer none] := by kernel_rfl
theorem field19_0 : fieldB Tryd.prog 19 0 = some (0, 17) := by kernel_rfl
theorem isAgg21 : isAggB Tryd.prog 21 = some false := by kernel_rfl
theorem tsz21 : (Tryd.prog.types[21]'(of_decide_eq_true (by kernel_rfl))).size = 1 := by kernel_rfl
theorem size21 : sizeB Tryd.prog 21 = some 1 := by kernel_rfl
theorem intK21 : intKindB Tryd.prog 21 = some .i32 := by kernel_rfl
theorem elem21 : elemB Tryd.prog 21 = none := by kernel_rfl
theorem zero21 : zeroC Tryd.prog 21 = some [.int .i32 0] := by kernel_rfl
theorem isAgg22 : isAggB Tryd.prog 22 = some false := by kernel_rfl
theorem tsz22 : (Tryd.prog.types[22]'(of_decide_eq_true (by kernel_rfl))).size = 1 := by kernel_rfl
theorem size22 : sizeB Tryd.prog 22 = some 1 := by kernel_rfl
theorem intK22 : intKindB Tryd.prog 22 = none := by kernel_rfl
theorem elem22 : elemB Tryd.prog 22 = some 5 := by kernel_rfl
theorem zero22 : zeroC Tryd.prog 22 = some [.slice none 0 0] := by kernel_rfl
theorem elty22 : eltyB Tryd.prog 22 = some (5, 1, 1, [.int .u8 0]) := by kernel_rfl
theorem isAgg26 : isAggB Tryd.prog 26 = some false := by kernel_rfl
theorem tsz26 : (Tryd.prog.types[26]'(of_decide_eq_true (by kernel_rfl))).size = 1 := by kernel_rfl
theorem size26 : sizeB Tryd.prog 26 = some 1 := by kernel_rfl
theorem intK26 : intKindB Tryd.prog 26 = some .u32 := by kernel_rfl
theorem elem26 : elemB Tryd.prog 26 = none := by kernel_rfl
theorem zero26 : zeroC Tryd.prog 26 = some [.int .u32 0] := by kernel_rfl
theorem isAgg27 : isAggB Tryd.prog 27 = some true := by kernel_rfl
theorem tsz27 : (Tryd.prog.types[27]'(of_decide_eq_true (by kernel_rfl))).size = 8 := by kernel_rfl
theorem size27 : sizeB Tryd.prog 27 = some 8 := by kernel_rfl
theorem intK27 : intKindB Tryd.prog 27 = none := by kernel_rfl
theorem elem27 : elemB Tryd.prog 27 = none := by kernel_rfl
theorem arr27 : arrB Tryd.prog 27 = some (8, 26) := by kernel_rfl
theorem zero27 : zeroC Tryd.prog 27 = some [.int .u32 0, .int .u32 0, .int .u32 0, .int .u32 0, .int .u32 0, .int .u32 0, .int .u32 0, .int .u32 0] := by kernel_rfl
theorem places27 : placesOf Tryd.prog 27 = some (fun i => some (i * 1, 1)) := by kernel_rfl
theorem isAgg30 : isAggB Tryd.prog 30 = some false := by kernel_rfl
theorem tsz30 : (Tryd.prog.types[30]'(of_decide_eq_true (by kernel_rfl))).size = 1 := by kernel_rfl
theorem size30 : sizeB Tryd.prog 30 = some 1 := by kernel_rfl
theorem intK30 : intKindB Tryd.prog 30 = some .i64 := by kernel_rfl
theorem elem30 : elemB Tryd.prog 30 = none := by kernel_rfl
theorem zero30 : zeroC Tryd.prog 30 = some [.int .i64 0] := by kernel_rfl
theorem isAgg35 : isAggB Tryd.prog 35 = some true := by kernel_rfl
theorem tsz35 : (Tryd.prog.types[35]'(of_decide_eq_true (by kernel_rfl))).size = 64 := by kernel_rfl
theorem size35 : sizeB Tryd.prog 35 = some 64 := by kernel_rfl
theorem intK35 : intKindB Tryd.prog 35 = none := by kernel_rfl
theorem elem35 : elemB Tryd.prog 35 = none := by kernel_rfl
theorem arr35 : arrB Tryd.prog 35 = some (64, 5) := by kernel_rfl
theorem zero35 : zeroC Tryd.prog 35 = some [.int .u8 0, .int .u8 0, .int .u8 0, .int .u8 0, .int .u8 0, .int .u8 0, .int .u8 0, .int .u8 0, .int .u8 0, .int .u8 0, .int .u8 0, .int .u8 0, .int .u8 0, .int .u8 0, .int .u8 0, .int .u8 0, .int .u8 0, .int .u8 0, .int .u8 0, .int .u8 0, .int .u8 0, .int .u8 0, .int .u8 0, .int .u8 0, .int .u8 0, .int .u8 0, .int .u8 0, .int .u8 0, .int .u8 0, .int .u8 0, .int .u8 0, .int .u8 0, .int .u8 0, .int .u8 0, .int .u8 0, .int .u8 0, .int .u8 0, .int .u8 0, .int .u8 0, .int .u8 0, .int .u8 0, .int .u8 0, .int .u8 0, .int .u8 0, .int .u8 0, .int .u8 0, .int .u8 0, .int .u8 0, .int .u8 0, .int .u8 0, .int .u8 0, .int .u8 0, .int .u8 0, .int .u8 0, .int .u8 0, .int .u8 0, .int .u8 0, .int .u8 0, .int .u8 0, .int .u8 0, .int .u8 0, .int .u8 0, .int .u8 0, .int .u8 0] := by kernel_rfl
theorem places35 : placesOf Tryd.prog 35 = some (fun i => some (i * 1, 1)) := by kernel_rfl
theorem isAgg37 : isAggB Tryd.prog 37 = some false := by kernel_rfl
theorem tsz37 : (Tryd.prog.types[37]'(of_decide_eq_true (by kernel_rfl))).size = 1 := by kernel_rfl
theorem size37 : sizeB Tryd.prog 37 = some 1 := by kernel_rfl
theorem intK37 : intKindB Tryd.prog 37 = some .u64 := by kernel_rfl
theorem elem37 : elemB Tryd.prog 37 = none := by kernel_rfl
theorem zero37 : zeroC Tryd.prog 37 = some [.int .u64 0] := by kernel_rfl
theorem isAgg38 : isAggB Tryd.prog 38 = some false := by kernel_rfl
theorem tsz38 : (Tryd.prog.types[38]'(of_decide_eq_true (by kernel_rfl))).size = 1 := by kernel_rfl
theorem size38 : sizeB Tryd.prog 38 = some 1 := by kernel_rfl
theorem intK38 : intKindB Tryd.prog 38 = some .u64 := by kernel_rfl
theorem elem38 : elemB Tryd.prog 38 = none := by kernel_rfl
theorem zero38 : zeroC Tryd.prog 38 = some [.int .u64 0] := by kernel_rfl
theorem isAgg39 : isAggB Tryd.prog 39 = some true := by kernel_rfl
theorem tsz39 : (Tryd.prog.types[39]'(of_decide_eq_true (by kernel_rfl))).size = 64 := by kernel_rfl
theorem size39 : sizeB Tryd.prog 39 = some 64 := by kernel_rfl
theorem intK39 : intKindB Tryd.prog 39 = none := by kernel_rfl
theorem elem39 : elemB Tryd.prog 39 = none := by kernel_rfl
theorem arr39 : arrB Tryd.prog 39 = some (64, 26) := by kernel_rfl
theorem zero39 : zeroC Tryd.prog 39 = some [.int .u32 0, .int .u32 0, .int .u32 0, .int .u32 0, .int .u32 0, .int .u32 0, .int .u32 0, .int .u32 0, .int .u32 0, .int .u32 0, .int .u32 0, .int .u32 0, .int .u32 0, .int .u32 0, .int .u32 0, .int .u32 0, .int .u32 0, .int .u32 0, .int .u32 0, .int .u32 0, .int .u32 0, .int .u32 0, .int .u32 0, .int .u32 0, .int .u32 0, .int .u32 0, .int .u32 0, .int .u32 0, .int .u32 0, .int .u32 0, .int .u32 0, .int .u32 0, .int .u32 0, .int .u32 0, .int .u32 0, .int .u32 0, .int .u32 0, .int .u32 0, .int .u32 0, .int .u32 0, .int .u32 0, .int .u32 0, .int .u32 0, .int .u32 0, .int .u32 0, .int .u32 0, .int .u32 0, .int .u32 0, .int .u32 0, .int .u32 0, .int .u32 0, .int .u32 0, .int .u32 0, .int .u32 0, .int .u32 0, .int .u32 0, .int .u32 0, .int .u32 0, .int .u32 0, .int .u32 0, .int .u32 0, .int .u32 0, .int .u32 0, .int .u32 0] := by kernel_rfl
theorem places39 : placesOf Tryd.prog 39 = some (fun i => some (i * 1, 1)) := by kernel_rfl
theorem isAgg43 : isAggB Tryd.prog 43 = some false := by kernel_rfl
theorem tsz43 : (Tryd.prog.types[43]'(of_decide_eq_true (by kernel_rfl))).size = 1 := by kernel_rfl
theorem size43 : sizeB Tryd.prog 43 = some 1 := by kernel_rfl
theorem intK43 : intKindB Tryd.prog 43 = none := by kernel_rfl
theorem elem43 : elemB Tryd.prog 43 = some 26 := by kernel_rfl
theorem zero43 : zeroC Tryd.prog 43 = some [.slice none 0 0] := by kernel_rfl
theorem elty43 : eltyB Tryd.prog 43 = some (26, 1, 4, [.int .u32 0]) := by kernel_rfl
theorem isAgg52 : isAggB Tryd.prog 52 = some true := by kernel_rfl
theorem tsz52 : (Tryd.prog.types[52]'(of_decide_eq_true (by kernel_rfl))).size = 4 := by kernel_rfl
theorem size52 : sizeB Tryd.prog 52 = some 4 := by kernel_rfl
theorem intK52 : intKindB Tryd.prog 52 = none := by kernel_rfl
theorem elem52 : elemB Tryd.prog 52 = none := by kernel_rfl
theorem zero52 : zeroC Tryd.prog 52 = some [.pointer none, .pointer none, .pointer none, .string ByteArray.empty] := by kernel_rfl
theorem field52_0 : fieldB Tryd.prog 52 0 = some (0, 17) := by kernel_rfl
theorem field52_1 : fieldB Tryd.prog 52 1 = some (1, 17) := by kernel_rfl
theorem field52_2 : fieldB Tryd.prog 52 2 = some (2, 17) := by kernel_rfl
theorem field52_3 : fieldB Tryd.prog 52 3 = some (3, 9) := by kernel_rfl
theorem isAgg53 : isAggB Tryd.prog 53 = some true := by kernel_rfl
theorem tsz53 : (Tryd.prog.types[53]'(of_decide_eq_true (by kernel_rfl))).size = 4 := by kernel_rfl
theorem size53 : sizeB Tryd.prog 53 = some 4 := by kernel_rfl
theorem intK53 : intKindB Tryd.prog 53 = none := by kernel_rfl
theorem elem53 : elemB Tryd.prog 53 = none := by kernel_rfl
theorem zero53 : zeroC Tryd.prog 53 = some [.pointer none, .pointer none, .pointer none, .string ByteArray.empty] := by kernel_rfl
theorem field53_0 : fieldB Tryd.prog 53 0 = some (0, 17) := by kernel_rfl
theorem field53_1 : fieldB Tryd.prog 53 1 = some (1, 17) := by kernel_rfl
theorem field53_2 : fieldB Tryd.prog 53 2 = some (2, 17) := by kernel_rfl
theorem field53_3 : fieldB Tryd.prog 53 3 = some (3, 9) := by kernel_rfl
theorem isAgg54 : isAggB Tryd.prog 54 = some true := by kernel_rfl
theorem tsz54 : (Tryd.prog.types[54]'(of_decide_eq_true (by kernel_rfl))).size = 0 := by kernel_rfl
theorem size54 : sizeB Tryd.prog 54 = some 0 := by kernel_rfl
theorem intK54 : intKindB Tryd.prog 54 = none := by kernel_rfl
theorem elem54 : elemB Tryd.prog 54 = none := by kernel_rfl
theorem arr54 : arrB Tryd.prog 54 = some (0, 16) := by kernel_rfl
theorem zero54 : zeroC Tryd.prog 54 = some [] := by kernel_rfl
theorem isAgg55 : isAggB Tryd.prog 55 = some true := by kernel_rfl
theorem tsz55 : (Tryd.prog.types[55]'(of_decide_eq_true (by kernel_rfl))).size = 0 := by kernel_rfl
theorem size55 : sizeB Tryd.prog 55 = some 0 := by kernel_rfl
theorem intK55 : intKindB Tryd.prog 55 = none := by kernel_rfl
theorem elem55 : elemB Tryd.prog 55 = none := by kernel_rfl
theorem zero55 : zeroC Tryd.prog 55 = some [] := by kernel_rfl
theorem field55_0 : fieldB Tryd.prog 55 0 = some (0, 54) := by kernel_rfl
theorem places55 : placesOf Tryd.prog 55 = some (fun i => (#[(0, 0)] : Array (Nat × Nat))[i]?) := by kernel_rfl
theorem isAgg56 : isAggB Tryd.prog 56 = some true := by kernel_rfl
theorem tsz56 : (Tryd.prog.types[56]'(of_decide_eq_true (by kernel_rfl))).size = 0 := by kernel_rfl
theorem size56 : sizeB Tryd.prog 56 = some 0 := by kernel_rfl
theorem intK56 : intKindB Tryd.prog 56 = none := by kernel_rfl
theorem elem56 : elemB Tryd.prog 56 = none := by kernel_rfl
theorem zero56 : zeroC Tryd.prog 56 = some [] := by kernel_rfl
theorem field56_0 : fieldB Tryd.prog 56 0 = some (0, 54) := by kernel_rfl
theorem places56 : placesOf Tryd.prog 56 = some (fun i => (#[(0, 0)] : Array (Nat × Nat))[i]?) := by kernel_rfl
theorem isAgg58 : isAggB Tryd.prog 58 = some false := by kernel_rfl
theorem tsz58 : (Tryd.prog.types[58]'(of_decide_eq_true (by kernel_rfl))).size = 1 := by kernel_rfl
theorem size58 : sizeB Tryd.prog 58 = some 1 := by kernel_rfl
theorem intK58 : intKindB Tryd.prog 58 = some .u8 := by kernel_rfl
theorem elem58 : elemB Tryd.prog 58 = none := by kernel_rfl
theorem und58 : Tryd.prog.underlying 58 = some (.int .u8) := by kernel_rfl
theorem zero58 : zeroC Tryd.prog 58 = some [.int .u8 0] := by kernel_rfl
theorem isAgg59 : isAggB Tryd.prog 59 = some false := by kernel_rfl
theorem tsz59 : (Tryd.prog.types[59]'(of_decide_eq_true (by kernel_rfl))).size = 1 := by kernel_rfl
theorem size59 : sizeB Tryd.prog 59 = some 1 := by kernel_rfl
theorem intK59 : intKindB Tryd.prog 59 = some .u8 := by kernel_rfl
theorem elem59 : elemB Tryd.prog 59 = none := by kernel_rfl
theorem und59 : Tryd.prog.underlying 59 = some (.int .u8) := by kernel_rfl
theorem zero59 : zeroC Tryd.prog 59 = some [.int .u8 0] := by kernel_rfl
theorem isAgg62 : isAggB Tryd.prog 62 = some false := by kernel_rfl
theorem tsz62 : (Tryd.prog.types[62]'(of_decide_eq_true (by kernel_rfl))).size = 1 := by kernel_rfl
theorem size62 : sizeB Tryd.prog 62 = some 1 := by kernel_rfl
theorem intK62 : intKindB Tryd.prog 62 = some .i32 := by kernel_rfl
theorem elem62 : elemB Tryd.prog 62 = none := by kernel_rfl
theorem zero62 : zeroC Tryd.prog 62 = some [.int .i32 0] := by kernel_rfl
theorem isAgg63 : isAggB Tryd.prog 63 = some false := by kernel_rfl
theorem tsz63 : (Tryd.prog.types[63]'(of_decide_eq_true (by kernel_rfl))).size = 1 := by kernel_rfl
theorem size63 : sizeB Tryd.prog 63 = some 1 := by kernel_rfl
theorem intK63 : intKindB Tryd.prog 63 = some .i32 := by kernel_rfl
theorem elem63 : elemB Tryd.prog 63 = none := by kernel_rfl
theorem zero63 : zeroC Tryd.prog 63 = some [.int .i32 0] := by kernel_rfl
theorem isAgg64 : isAggB Tryd.prog 64 = some true := by kernel_rfl
theorem tsz64 : (Tryd.prog.types[64]'(of_decide_eq_true (by kernel_rfl))).size = 11 := by kernel_rfl
theorem size64 : sizeB Tryd.prog 64 = some 11 := by kernel_rfl
theorem intK64 : intKindB Tryd.prog 64 = none := by kernel_rfl
theorem elem64 : elemB Tryd.prog 64 = none := by kernel_rfl
theorem zero64 : zeroC Tryd.prog 64 = some [.int .u64 0, .int .u64 0, .int .u32 0, .int .u8 0, .int .u8 0, .int .u8 0, .int .u8 0, .nilFunc, .pointer none, .int .i32 0, .int .i32 0] := by kernel_rfl
theorem field64_0 : fieldB Tryd.prog 64 0 = some (0, 12) := by kernel_rfl
theorem field64_1 : fieldB Tryd.prog 64 1 = some (1, 12) := by kernel_rfl
theorem field64_2 : fieldB Tryd.prog 64 2 = some (2, 26) := by kernel_rfl
theorem field64_3 : fieldB Tryd.prog 64 3 = some (3, 58) := by kernel_rfl
theorem field64_4 : fieldB Tryd.prog 64 4 = some (4, 5) := by kernel_rfl
theorem field64_5 : fieldB Tryd.prog 64 5 = some (5, 5) := by kernel_rfl
theorem field64_6 : fieldB Tryd.prog 64 6 = some (6, 59) := by kernel_rfl
theorem field64_7 : fieldB Tryd.prog 64 7 = some (7, 60) := by kernel_rfl
theorem field64_8 : fieldB Tryd.prog 64 8 = some (8, 61) := by kernel_rfl
theorem field64_9 : fieldB Tryd.prog 64 9 = some (9, 62) := by kernel_rfl
theorem field64_10 : fieldB Tryd.prog 64 10 = some (10, 63) := by kernel_rfl
theorem isAgg65 : isAggB Tryd.prog 65 = some true := by kernel_rfl
theorem tsz65 : (Tryd.prog.types[65]'(of_decide_eq_true (by kernel_rfl))).size = 11 := by kernel_rfl
theorem size65 : sizeB Tryd.prog 65 = some 11 := by kernel_rfl
theorem intK65 : intKindB Tryd.prog 65 = none := by kernel_rfl
theorem elem65 : elemB Tryd.prog 65 = none := by kernel_rfl
theorem zero65 : zeroC Tryd.prog 65 = some [.int .u64 0, .int .u64 0, .int .u32 0, .int .u8 0, .int .u8 0, .int .u8 0, .int .u8 0, .nilFunc, .pointer none, .int .i32 0, .int .i32 0] := by kernel_rfl
theorem field65_0 : fieldB Tryd.prog 65 0 = some (0, 12) := by kernel_rfl
theorem field65_1 : fieldB Tryd.prog 65 1 = some (1, 12) := by kernel_rfl
theorem field65_2 : fieldB Tryd.prog 65 2 = some (2, 26) := by kernel_rfl
theorem field65_3 : fieldB Tryd.prog 65 3 = some (3, 58) := by kernel_rfl
theorem field65_4 : fieldB Tryd.prog 65 4 = some (4, 5) := by kernel_rfl
theorem field65_5 : fieldB Tryd.prog 65 5 = some (5, 5) := by kernel_rfl
theorem field65_6 : fieldB Tryd.prog 65 6 = some (6, 59) := by kernel_rfl
theorem field65_7 : fieldB Tryd.prog 65 7 = some (7, 60) := by kernel_rfl
theorem field65_8 : fieldB Tryd.prog 65 8 = some (8, 61) := by kernel_rfl
theorem field65_9 : fieldB Tryd.prog 65 9 = some (9, 62) := by kernel_rfl
theorem field65_10 : fieldB Tryd.prog 65 10 = some (10, 63) := by kernel_rfl
theorem fnOk3 : FnOk Tryd.prog 3 := ⟨_, _, Tryd.func3, rfl, rfl⟩
theorem fnOk4 : FnOk Tryd.prog 4 := ⟨_, _, Tryd.func4, rfl, rfl⟩
theorem fnOk5 : FnOk Tryd.prog 5 := ⟨_, _, Tryd.func5, rfl, rfl⟩
theorem fnOk6 : FnOk Tryd.prog 6 := ⟨_, _, Tryd.func6, rfl, rfl⟩
theorem fnOk7 : FnOk Tryd.prog 7 := ⟨_, _, Tryd.func7, rfl, rfl⟩
theorem fnOk8 : FnOk Tryd.prog 8 := ⟨_, _, Tryd.func8, rfl, rfl⟩
theorem fnOk9 : FnOk Tryd.prog 9 := ⟨_, _, Tryd.func9, rfl, rfl⟩
theorem fnOk10 : FnOk Tryd.prog 10 := ⟨_, _, Tryd.func10, rfl, rfl⟩
theorem fnOk11 : FnOk Tryd.prog 11 := ⟨_, _, Tryd.func11, rfl, rfl⟩
theorem fnOk12 : FnOk Tryd.prog 12 := ⟨_, _, Tryd.func12, rfl, rfl⟩
theorem fnOk13 : FnOk Tryd.prog 13 := ⟨_, _, Tryd.func13, rfl, rfl⟩
theorem fnOk14 : FnOk Tryd.prog 14 := ⟨_, _, Tryd.func14, rfl, rfl⟩
theorem fnOk15 : FnOk Tryd.prog 15 := ⟨_, _, Tryd.func15, rfl, rfl⟩
theorem fnOk16 : FnOk Tryd.prog 16 := ⟨_, _, Tryd.func16, rfl, rfl⟩
theorem fnOk17 : FnOk Tryd.prog 17 := ⟨_, _, Tryd.func17, rfl, rfl⟩
theorem fnOk18 : FnOk Tryd.prog 18 := ⟨_, _, Tryd.func18, rfl, rfl⟩
theorem fnOk19 : FnOk Tryd.prog 19 := ⟨_, _, Tryd.func19, rfl, rfl⟩
theorem fnOk20 : FnOk Tryd.prog 20 := ⟨_, _, Tryd.func20, rfl, rfl⟩
theorem fnOk21 : FnOk Tryd.prog 21 := ⟨_, _, Tryd.func21, rfl, rfl⟩
theorem fnOk22 : FnOk Tryd.prog 22 := ⟨_, _, Tryd.func22, rfl, rfl⟩
theorem fnOk23 : FnOk Tryd.prog 23 := ⟨_, _, Tryd.func23, rfl, rfl⟩
theorem fnOk24 : FnOk Tryd.prog 24 := ⟨_, _, Tryd.func24, rfl, rfl⟩
theorem fnOk25 : FnOk Tryd.prog 25 := ⟨_, _, Tryd.func25, rfl, rfl⟩
theorem fnOk26 : FnOk Tryd.prog 26 := ⟨_, _, Tryd.func26, rfl, rfl⟩
theorem fnOk27 : FnOk Tryd.prog 27 := ⟨_, _, Tryd.func27, rfl, rfl⟩
theorem fnOk28 : FnOk Tryd.prog 28 := ⟨_, _, Tryd.func28, rfl, rfl⟩
theorem fnOk29 : FnOk Tryd.prog 29 := ⟨_, _, Tryd.func29, rfl, rfl⟩
theorem fnOk30 : FnOk Tryd.prog 30 := ⟨_, _, Tryd.func30, rfl, rfl⟩
theorem fnOk31 : FnOk Tryd.prog 31 := ⟨_, _, Tryd.func31, rfl, rfl⟩
theorem fnOk32 : FnOk Tryd.prog 32 := ⟨_, _, Tryd.func32, rfl, rfl⟩
theorem fnOk33 : FnOk Tryd.prog 33 := ⟨_, _, Tryd.func33, rfl, rfl⟩
theorem fnOk34 : FnOk Tryd.prog 34 := ⟨_, _, Tryd.func34, rfl, rfl⟩
end Go.Proofs.YtmmlffffphgjbaaDoor
