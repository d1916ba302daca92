/- Closed facts on the types of the program, for the walk over plain values. -/
import Derived.Test.YtoogjgmlbphldaaPw16
import Derived.Test.YtoogjgmlbphldaaProg
namespace Go.Proofs.Ytoogjgmlbphldaa
open Go Go.RowKit
theorem isAgg2 : isAggB Try.prog 2 = some false := by kernel_rfl
theorem tsz2 : (Try.prog.types[2]'(of_decide_eq_true (by kernel_rfl))).size = 1 := by kernel_rfl
theorem size2 : sizeB Try.prog 2 = some 1 := by kernel_rfl
theorem intK2 : intKindB Try.prog 2 = some .i64 := by kernel_rfl
theorem elem2 : elemB Try.prog 2 = none := by kernel_rfl
theorem zero2 : zeroC Try.prog 2 = some [.int .i64 0] := by kernel_rfl
theorem isAgg3 : isAggB Try.prog 3 = some false := by kernel_rfl
theorem tsz3 : (Try.prog.types[3]'(of_decide_eq_true (by kernel_rfl))).size = 1 := by kernel_rfl
theorem size3 : sizeB Try.prog 3 = some 1 := by kernel_rfl
theorem intK3 : intKindB Try.prog 3 = some .i64 := by kernel_rfl
theorem elem3 : elemB Try.prog 3 = none := by kernel_rfl
theorem zero3 : zeroC Try.prog 3 = some [.int .i64 0] := by kernel_rfl
theorem isAgg4 : isAggB Try.prog 4 = some false := by kernel_rfl
theorem tsz4 : (Try.prog.types[4]'(of_decide_eq_true (by kernel_rfl))).size = 1 := by kernel_rfl
theorem size4 : sizeB Try.prog 4 = some 1 := by kernel_rfl
theorem intK4 : intKindB Try.prog 4 = none := by kernel_rfl
theorem elem4 : elemB Try.prog 4 = none := by kernel_rfl
theorem und4 : Try.prog.underlying 4 = some .bool := by kernel_rfl
theorem zero4 : zeroC Try.prog 4 = some [.bool false] := by kernel_rfl
theorem isAgg5 : isAggB Try.prog 5 = some false := by kernel_rfl
theorem tsz5 : (Try.prog.types[5]'(of_decide_eq_true (by kernel_rfl))).size = 1 := by kernel_rfl
theorem size5 : sizeB Try.prog 5 = some 1 := by kernel_rfl
theorem intK5 : intKindB Try.prog 5 = some .u8 := by kernel_rfl
theorem elem5 : elemB Try.prog 5 = none := by kernel_rfl
theorem und5 : Try.prog.underlying 5 = some (.int .u8) := by kernel_rfl
theorem zero5 : zeroC Try.prog 5 = some [.int .u8 0] := by kernel_rfl
theorem isAgg6 : isAggB Try.prog 6 = some false := by kernel_rfl
theorem tsz6 : (Try.prog.types[6]'(of_decide_eq_true (by kernel_rfl))).size = 1 := by kernel_rfl
theorem size6 : sizeB Try.prog 6 = some 1 := by kernel_rfl
theorem intK6 : intKindB Try.prog 6 = some .u8 := by kernel_rfl
theorem elem6 : elemB Try.prog 6 = none := by kernel_rfl
theorem und6 : Try.prog.underlying 6 = some (.int .u8) := by kernel_rfl
theorem zero6 : zeroC Try.prog 6 = some [.int .u8 0] := by kernel_rfl
theorem isAgg7 : isAggB Try.prog 7 = some true := by kernel_rfl
theorem tsz7 : (Try.prog.types[7]'(of_decide_eq_true (by kernel_rfl))).size = 4 := by kernel_rfl
theorem size7 : sizeB Try.prog 7 = some 4 := by kernel_rfl
theorem intK7 : intKindB Try.prog 7 = none := by kernel_rfl
theorem elem7 : elemB Try.prog 7 = none := by kernel_rfl
theorem zero7 : zeroC Try.prog 7 = some [.int .i64 0, .int .i64 0, .bool false, .int .u8 0] := by kernel_rfl
theorem field7_0 : fieldB Try.prog 7 0 = some (0, 2) := by kernel_rfl
theorem field7_1 : fieldB Try.prog 7 1 = some (1, 3) := by kernel_rfl
theorem field7_2 : fieldB Try.prog 7 2 = some (2, 4) := by kernel_rfl
theorem field7_3 : fieldB Try.prog 7 3 = some (3, 6) := by kernel_rfl
theorem places7 : placesOf Try.prog 7 = some (fun i => (#[(0, 1), (1, 1), (2, 1), (3, 1)] : Array (Nat × Nat))[i]?) := by kernel_rfl
theorem isAgg8 : isAggB Try.prog 8 = some true := by kernel_rfl
theorem tsz8 : (Try.prog.types[8]'(of_decide_eq_true (by kernel_rfl))).size = 4 := by kernel_rfl
theorem size8 : sizeB Try.prog 8 = some 4 := by kernel_rfl
theorem intK8 : intKindB Try.prog 8 = none := by kernel_rfl
theorem elem8 : elemB Try.prog 8 = none := by kernel_rfl
theorem zero8 : zeroC Try.prog 8 = some [.int .i64 0, .int .i64 0, .bool false, .int .u8 0] := by kernel_rfl
theorem field8_0 : fieldB Try.prog 8 0 = some (0, 2) := by kernel_rfl
theorem field8_1 : fieldB Try.prog 8 1 = some (1, 3) := by kernel_rfl
theorem field8_2 : fieldB Try.prog 8 2 = some (2, 4) := by kernel_rfl
theorem field8_3 : fieldB Try.prog 8 3 = some (3, 6) := by kernel_rfl
theorem places8 : placesOf Try.prog 8 = some (fun i => (#[(0, 1), (1, 1), (2, 1), (3, 1)] : Array (Nat × Nat))[i]?) := by kernel_rfl
theorem isAgg9 : isAggB Try.prog 9 = some false := by kernel_rfl
theorem tsz9 : (Try.prog.types[9]'(of_decide_eq_true (by kernel_rfl))).size = 1 := by kernel_rfl
theorem size9 : sizeB Try.prog 9 = some 1 := by kernel_rfl
theorem intK9 : intKindB Try.prog 9 = none := by kernel_rfl
theorem elem9 : elemB Try.prog 9 = none := by kernel_rfl
theorem und9 : Try.prog.underlying 9 = some .string := by kernel_rfl
theorem zero9 : zeroC Try.prog 9 = some [.string ByteArray.empty] := by kernel_rfl
theorem isAgg10 : isAggB Try.prog 10 = some false := by kernel_rfl
theorem tsz10 : (Try.prog.types[10]'(of_decide_eq_true (by kernel_rfl))).size = 1 := by kernel_rfl
theorem size10 : sizeB Try.prog 10 = some 1 := by kernel_rfl
theorem intK10 : intKindB Try.prog 10 = none := by kernel_rfl
theorem elem10 : elemB Try.prog 10 = none := by kernel_rfl
theorem und10 : Try.prog.underlying 10 = some .string := by kernel_rfl
theorem zero10 : zeroC Try.prog 10 = some [.string ByteArray.empty] := by kernel_rfl
theorem isAgg11 : isAggB Try.prog 11 = some false := by kernel_rfl
theorem tsz11 : (Try.prog.types[11]'(of_decide_eq_true (by kernel_rfl))).size = 1 := by kernel_rfl
theorem size11 : sizeB Try.prog 11 = some 1 := by kernel_rfl
theorem intK11 : intKindB Try.prog 11 = none := by kernel_rfl
theorem elem11 : elemB Try.prog 11 = none := by kernel_rfl
theorem und11 : Try.prog.underlying 11 = some .string := by kernel_rfl
theorem zero11 : zeroC Try.prog 11 = some [.string ByteArray.empty] := by kernel_rfl
theorem isAgg12 : isAggB Try.prog 12 = some false := by kernel_rfl
theorem tsz12 : (Try.prog.types[12]'(of_decide_eq_true (by kernel_rfl))).size = 1 := by kernel_rfl
theorem size12 : sizeB Try.prog 12 = some 1 := by kernel_rfl
theorem intK12 : intKindB Try.prog 12 = some .u64 := by kernel_rfl
theorem elem12 : elemB Try.prog 12 = none := by kernel_rfl
theorem zero12 : zeroC Try.prog 12 = some [.int .u64 0] := by kernel_rfl
theorem isAgg13 : isAggB Try.prog 13 = some true := by kernel_rfl
theorem tsz13 : (Try.prog.types[13]'(of_decide_eq_true (by kernel_rfl))).size = 2 := by kernel_rfl
theorem size13 : sizeB Try.prog 13 = some 2 := by kernel_rfl
theorem intK13 : intKindB Try.prog 13 = none := by kernel_rfl
theorem elem13 : elemB Try.prog 13 = none := by kernel_rfl
theorem zero13 : zeroC Try.prog 13 = some [.string ByteArray.empty, .int .u64 0] := by kernel_rfl
theorem field13_0 : fieldB Try.prog 13 0 = some (0, 9) := by kernel_rfl
theorem field13_1 : fieldB Try.prog 13 1 = some (1, 12) := by kernel_rfl
theorem places13 : placesOf Try.prog 13 = some (fun i => (#[(0, 1), (1, 1)] : Array (Nat × Nat))[i]?) := by kernel_rfl
theorem isAgg14 : isAggB Try.prog 14 = some true := by kernel_rfl
theorem tsz14 : (Try.prog.types[14]'(of_decide_eq_true (by kernel_rfl))).size = 2 := by kernel_rfl
theorem size14 : sizeB Try.prog 14 = some 2 := by kernel_rfl
theorem intK14 : intKindB Try.prog 14 = none := by kernel_rfl
theorem elem14 : elemB Try.prog 14 = none := by kernel_rfl
theorem zero14 : zeroC Try.prog 14 = some [.string ByteArray.empty, .int .u64 0] := by kernel_rfl
theorem field14_0 : fieldB Try.prog 14 0 = some (0, 9) := by kernel_rfl
theorem field14_1 : fieldB Try.prog 14 1 = some (1, 12) := by kernel_rfl
theorem places14 : placesOf Try.prog 14 = some (fun i => (#[(0, 1), (1, 1)] : Array (Nat × Nat))[i]?) := by kernel_rfl
theorem isAgg18 : isAggB Try.prog 18 = some true := by kernel_rfl
theorem tsz18 : (Try.prog.types[18]'(of_decide_eq_true (by kernel_rfl))).size = 1 := by kernel_rfl
theorem size18 : sizeB Try.prog 18 = some 1 := by kernel_rfl
theorem intK18 : intKindB Try.prog 18 = none := by kernel_rfl
theorem elem18 : elemB Try.prog 18 = none := by kernel_rfl
theorem zero18 : zeroC Try.prog 18 = some [.pointer none] := by kernel_rfl
theorem field18_0 : fieldB Try.prog 18 0 = some (0, 17) := by kernel_rfl
theorem isAgg19 : isAggB Try.prog 19 = some true := by kernel_rfl
theorem tsz19 : (Try.prog.types[19]'(of_decide_eq_true (by kernel_rfl))).size = 1 := by kernel_rfl
theorem size19 : sizeB Try.prog 19 = some 1 := by kernel_rfl
theorem intK19 : intKindB Try.prog 19 = none := by kernel_rfl
theorem elem19 : elemB Try.prog 19 = none := by kernel_rfl
theorem zero19 : zeroC Try.prog 19 = some [.pointer none] := by kernel_rfl
theorem field19_0 : fieldB Try.prog 19 0 = some (0, 17) := by kernel_rfl
theorem isAgg21 : isAggB Try.prog 21 = some false := by kernel_rfl
theorem tsz21 : (Try.prog.types[21]'(of_decide_eq_true (by kernel_rfl))).size = 1 := by kernel_rfl
theorem size21 : sizeB Try.prog 21 = some 1 := by kernel_rfl
theorem intK21 : intKindB Try.prog 21 = some .i32 := by kernel_rfl
theorem elem21 : elemB Try.prog 21 = none := by kernel_rfl
theorem zero21 : zeroC Try.prog 21 = some [.int .i32 0] := by kernel_rfl
theorem isAgg22 : isAggB Try.prog 22 = some false := by kernel_rfl
theorem tsz22 : (Try.prog.types[22]'(of_decide_eq_true (by kernel_rfl))).size = 1 := by kernel_rfl
theorem size22 : sizeB Try.prog 22 = some 1 := by kernel_rfl
theorem intK22 : intKindB Try.prog 22 = none := by kernel_rfl
theorem elem22 : elemB Try.prog 22 = some 5 := by kernel_rfl
theorem zero22 : zeroC Try.prog 22 = some [.slice none 0 0] := by kernel_rfl
theorem elty22 : eltyB Try.prog 22 = some (5, 1, 1, [.int .u8 0]) := by kernel_rfl
theorem isAgg23 : isAggB Try.prog 23 = some false := by kernel_rfl
theorem tsz23 : (Try.prog.types[23]'(of_decide_eq_true (by kernel_rfl))).size = 1 := by kernel_rfl
theorem size23 : sizeB Try.prog 23 = some 1 := by kernel_rfl
theorem intK23 : intKindB Try.prog 23 = some .u64 := by kernel_rfl
theorem elem23 : elemB Try.prog 23 = none := by kernel_rfl
theorem zero23 : zeroC Try.prog 23 = some [.int .u64 0] := by kernel_rfl
theorem isAgg24 : isAggB Try.prog 24 = some true := by kernel_rfl
theorem tsz24 : (Try.prog.types[24]'(of_decide_eq_true (by kernel_rfl))).size = 11 := by kernel_rfl
theorem size24 : sizeB Try.prog 24 = some 11 := by kernel_rfl
theorem intK24 : intKindB Try.prog 24 = none := by kernel_rfl
theorem elem24 : elemB Try.prog 24 = none := by kernel_rfl
theorem zero24 : zeroC Try.prog 24 = some [.slice none 0 0, .int .i64 0, .int .i64 0, .int .i64 0, .int .i64 0, .int .i64 0, .int .i64 0, .int .i64 0, .int .i64 0, .int .u64 0, .int .u64 0] := by kernel_rfl
theorem field24_0 : fieldB Try.prog 24 0 = some (0, 22) := by kernel_rfl
theorem field24_1 : fieldB Try.prog 24 1 = some (1, 3) := by kernel_rfl
theorem field24_2 : fieldB Try.prog 24 2 = some (2, 3) := by kernel_rfl
theorem field24_3 : fieldB Try.prog 24 3 = some (3, 3) := by kernel_rfl
theorem field24_4 : fieldB Try.prog 24 4 = some (4, 3) := by kernel_rfl
theorem field24_5 : fieldB Try.prog 24 5 = some (5, 3) := by kernel_rfl
theorem field24_6 : fieldB Try.prog 24 6 = some (6, 3) := by kernel_rfl
theorem field24_7 : fieldB Try.prog 24 7 = some (7, 3) := by kernel_rfl
theorem field24_8 : fieldB Try.prog 24 8 = some (8, 3) := by kernel_rfl
theorem field24_9 : fieldB Try.prog 24 9 = some (9, 23) := by kernel_rfl
theorem field24_10 : fieldB Try.prog 24 10 = some (10, 23) := by kernel_rfl
theorem places24 : placesOf Try.prog 24 = some (fun i => (#[(0, 1), (1, 1), (2, 1), (3, 1), (4, 1), (5, 1), (6, 1), (7, 1), (8, 1), (9, 1), (10, 1)] : Array (Nat × Nat))[i]?) := by kernel_rfl
theorem isAgg25 : isAggB Try.prog 25 = some true := by kernel_rfl
theorem tsz25 : (Try.prog.types[25]'(of_decide_eq_true (by kernel_rfl))).size = 11 := by kernel_rfl
theorem size25 : sizeB Try.prog 25 = some 11 := by kernel_rfl
theorem intK25 : intKindB Try.prog 25 = none := by kernel_rfl
theorem elem25 : elemB Try.prog 25 = none := by kernel_rfl
theorem zero25 : zeroC Try.prog 25 = some [.slice none 0 0, .int .i64 0, .int .i64 0, .int .i64 0, .int .i64 0, .int .i64 0, .int .i64 0, .int .i64 0, .int .i64 0, .int .u64 0, .int .u64 0] := by kernel_rfl
theorem field25_0 : fieldB Try.prog 25 0 = some (0, 22) := by kernel_rfl
theorem field25_1 : fieldB Try.prog 25 1 = some (1, 3) := by kernel_rfl
theorem field25_2 : fieldB Try.prog 25 2 = some (2, 3) := by kernel_rfl
theorem field25_3 : fieldB Try.prog 25 3 = some (3, 3) := by kernel_rfl
theorem field25_4 : fieldB Try.prog 25 4 = some (4, 3) := by kernel_rfl
theorem field25_5 : fieldB Try.prog 25 5 = some (5, 3) := by kernel_rfl
theorem field25_6 : fieldB Try.prog 25 6 = some (6, 3) := by kernel_rfl
theorem field25_7 : fieldB Try.prog 25 7 = some (7, 3) := by kernel_rfl
theorem field25_8 : fieldB Try.prog 25 8 = some (8, 3) := by kernel_rfl
theorem field25_9 : fieldB Try.prog 25 9 = some (9, 23) := by kernel_rfl
theorem field25_10 : fieldB Try.prog 25 10 = some (10, 23) := by kernel_rfl
theorem places25 : placesOf Try.prog 25 = some (fun i => (#[(0, 1), (1, 1), (2, 1), (3, 1), (4, 1), (5, 1), (6, 1), (7, 1), (8, 1), (9, 1), (10, 1)] : Array (Nat × Nat))[i]?) := by kernel_rfl
theorem isAgg26 : isAggB Try.prog 26 = some false := by kernel_rfl
theorem tsz26 : (Try.prog.types[26]'(of_decide_eq_true (by kernel_rfl))).size = 1 := by kernel_rfl
theorem size26 : sizeB Try.prog 26 = some 1 := by kernel_rfl
theorem intK26 : intKindB Try.prog 26 = none := by kernel_rfl
theorem elem26 : elemB Try.prog 26 = some 34 := by kernel_rfl
theorem zero26 : zeroC Try.prog 26 = some [.slice none 0 0] := by kernel_rfl
theorem elty26 : eltyB Try.prog 26 = some (34, 5, 56, [.bool false, .int .i64 0, .int .i64 0, .int .u64 0, .slice none 0 0]) := by kernel_rfl
theorem isAgg27 : isAggB Try.prog 27 = some true := by kernel_rfl
theorem tsz27 : (Try.prog.types[27]'(of_decide_eq_true (by kernel_rfl))).size = 2 := by kernel_rfl
theorem size27 : sizeB Try.prog 27 = some 2 := by kernel_rfl
theorem intK27 : intKindB Try.prog 27 = none := by kernel_rfl
theorem elem27 : elemB Try.prog 27 = none := by kernel_rfl
theorem zero27 : zeroC Try.prog 27 = some [.int .u64 0, .slice none 0 0] := by kernel_rfl
theorem field27_0 : fieldB Try.prog 27 0 = some (0, 23) := by kernel_rfl
theorem field27_1 : fieldB Try.prog 27 1 = some (1, 26) := by kernel_rfl
theorem places27 : placesOf Try.prog 27 = some (fun i => (#[(0, 1), (1, 1)] : Array (Nat × Nat))[i]?) := by kernel_rfl
theorem isAgg28 : isAggB Try.prog 28 = some true := by kernel_rfl
theorem tsz28 : (Try.prog.types[28]'(of_decide_eq_true (by kernel_rfl))).size = 2 := by kernel_rfl
theorem size28 : sizeB Try.prog 28 = some 2 := by kernel_rfl
theorem intK28 : intKindB Try.prog 28 = none := by kernel_rfl
theorem elem28 : elemB Try.prog 28 = none := by kernel_rfl
theorem zero28 : zeroC Try.prog 28 = some [.int .u64 0, .slice none 0 0] := by kernel_rfl
theorem field28_0 : fieldB Try.prog 28 0 = some (0, 23) := by kernel_rfl
theorem field28_1 : fieldB Try.prog 28 1 = some (1, 26) := by kernel_rfl
theorem places28 : placesOf Try.prog 28 = some (fun i => (#[(0, 1), (1, 1)] : Array (Nat × Nat))[i]?) := by kernel_rfl
theorem isAgg33 : isAggB Try.prog 33 = some true := by kernel_rfl
theorem tsz33 : (Try.prog.types[33]'(of_decide_eq_true (by kernel_rfl))).size = 5 := by kernel_rfl
theorem size33 : sizeB Try.prog 33 = some 5 := by kernel_rfl
theorem intK33 : intKindB Try.prog 33 = none := by kernel_rfl
theorem elem33 : elemB Try.prog 33 = none := by kernel_rfl
theorem zero33 : zeroC Try.prog 33 = some [.bool false, .int .i64 0, .int .i64 0, .int .u64 0, .slice none 0 0] := by kernel_rfl
theorem field33_0 : fieldB Try.prog 33 0 = some (0, 4) := by kernel_rfl
theorem field33_1 : fieldB Try.prog 33 1 = some (1, 3) := by kernel_rfl
theorem field33_2 : fieldB Try.prog 33 2 = some (2, 3) := by kernel_rfl
theorem field33_3 : fieldB Try.prog 33 3 = some (3, 23) := by kernel_rfl
theorem field33_4 : fieldB Try.prog 33 4 = some (4, 22) := by kernel_rfl
theorem places33 : placesOf Try.prog 33 = some (fun i => (#[(0, 1), (1, 1), (2, 1), (3, 1), (4, 1)] : Array (Nat × Nat))[i]?) := by kernel_rfl
theorem isAgg34 : isAggB Try.prog 34 = some true := by kernel_rfl
theorem tsz34 : (Try.prog.types[34]'(of_decide_eq_true (by kernel_rfl))).size = 5 := by kernel_rfl
theorem size34 : sizeB Try.prog 34 = some 5 := by kernel_rfl
theorem intK34 : intKindB Try.prog 34 = none := by kernel_rfl
theorem elem34 : elemB Try.prog 34 = none := by kernel_rfl
theorem zero34 : zeroC Try.prog 34 = some [.bool false, .int .i64 0, .int .i64 0, .int .u64 0, .slice none 0 0] := by kernel_rfl
theorem field34_0 : fieldB Try.prog 34 0 = some (0, 4) := by kernel_rfl
theorem field34_1 : fieldB Try.prog 34 1 = some (1, 3) := by kernel_rfl
theorem field34_2 : fieldB Try.prog 34 2 = some (2, 3) := by kernel_rfl
theorem field34_3 : fieldB Try.prog 34 3 = some (3, 23) := by kernel_rfl
theorem field34_4 : fieldB Try.prog 34 4 = some (4, 22) := by kernel_rfl
theorem places34 : placesOf Try.prog 34 = some (fun i => (#[(0, 1), (1, 1), (2, 1), (3, 1), (4, 1)] : Array (Nat × Nat))[i]?) := by kernel_rfl
theorem isAgg43 : isAggB Try.prog 43 = some false := by kernel_rfl
theorem tsz43 : (Try.prog.types[43]'(of_decide_eq_true (by kernel_rfl))).size = 1 := by kernel_rfl
theorem size43 : sizeB Try.prog 43 = some 1 := by kernel_rfl
theorem intK43 : intKindB Try.prog 43 = none := by kernel_rfl
theorem elem43 : elemB Try.prog 43 = some 22 := by kernel_rfl
theorem zero43 : zeroC Try.prog 43 = some [.slice none 0 0] := by kernel_rfl
theorem elty43 : eltyB Try.prog 43 = some (22, 1, 24, [.slice none 0 0]) := by kernel_rfl
theorem isAgg44 : isAggB Try.prog 44 = some false := by kernel_rfl
theorem tsz44 : (Try.prog.types[44]'(of_decide_eq_true (by kernel_rfl))).size = 1 := by kernel_rfl
theorem size44 : sizeB Try.prog 44 = some 1 := by kernel_rfl
theorem intK44 : intKindB Try.prog 44 = none := by kernel_rfl
theorem elem44 : elemB Try.prog 44 = some 4 := by kernel_rfl
theorem zero44 : zeroC Try.prog 44 = some [.slice none 0 0] := by kernel_rfl
theorem elty44 : eltyB Try.prog 44 = some (4, 1, 1, [.bool false]) := by kernel_rfl
theorem isAgg54 : isAggB Try.prog 54 = some true := by kernel_rfl
theorem tsz54 : (Try.prog.types[54]'(of_decide_eq_true (by kernel_rfl))).size = 4 := by kernel_rfl
theorem size54 : sizeB Try.prog 54 = some 4 := by kernel_rfl
theorem intK54 : intKindB Try.prog 54 = none := by kernel_rfl
theorem elem54 : elemB Try.prog 54 = none := by kernel_rfl
theorem zero54 : zeroC Try.prog 54 = some [.pointer none, .pointer none, .pointer none, .string ByteArray.empty] := by kernel_rfl
theorem field54_0 : fieldB Try.prog 54 0 = some (0, 17) := by kernel_rfl
theorem field54_1 : fieldB Try.prog 54 1 = some (1, 17) := by kernel_rfl
theorem field54_2 : fieldB Try.prog 54 2 = some (2, 17) := by kernel_rfl
theorem field54_3 : fieldB Try.prog 54 3 = some (3, 9) := by kernel_rfl
theorem isAgg55 : isAggB Try.prog 55 = some true := by kernel_rfl
theorem tsz55 : (Try.prog.types[55]'(of_decide_eq_true (by kernel_rfl))).size = 4 := by kernel_rfl
theorem size55 : sizeB Try.prog 55 = some 4 := by kernel_rfl
theorem intK55 : intKindB Try.prog 55 = none := by kernel_rfl
theorem elem55 : elemB Try.prog 55 = none := by kernel_rfl
theorem zero55 : zeroC Try.prog 55 = some [.pointer none, .pointer none, .pointer none, .string ByteArray.empty] := by kernel_rfl
theorem field55_0 : fieldB Try.prog 55 0 = some (0, 17) := by kernel_rfl
theorem field55_1 : fieldB Try.prog 55 1 = some (1, 17) := by kernel_rfl
theorem field55_2 : fieldB Try.prog 55 2 = some (2, 17) := by kernel_rfl
theorem field55_3 : fieldB Try.prog 55 3 = some (3, 9) := by kernel_rfl
theorem isAgg56 : isAggB Try.prog 56 = some true := by kernel_rfl
theorem tsz56 : (Try.prog.types[56]'(of_decide_eq_true (by kernel_rfl))).size = 0 := by kernel_rfl
theorem size56 : sizeB Try.prog 56 = some 0 := by kernel_rfl
theorem intK56 : intKindB Try.prog 56 = none := by kernel_rfl
theorem elem56 : elemB Try.prog 56 = none := by kernel_rfl
theorem arr56 : arrB Try.prog 56 = some (0, 16) := by kernel_rfl
theorem zero56 : zeroC Try.prog 56 = some [] := by kernel_rfl
theorem isAgg57 : isAggB Try.prog 57 = some true := by kernel_rfl
theorem tsz57 : (Try.prog.types[57]'(of_decide_eq_true (by kernel_rfl))).size = 0 := by kernel_rfl
theorem size57 : sizeB Try.prog 57 = some 0 := by kernel_rfl
theorem intK57 : intKindB Try.prog 57 = none := by kernel_rfl
theorem elem57 : elemB Try.prog 57 = none := by kernel_rfl
theorem zero57 : zeroC Try.prog 57 = some [] := by kernel_rfl
theorem field57_0 : fieldB Try.prog 57 0 = some (0, 56) := by kernel_rfl
theorem places57 : placesOf Try.prog 57 = some (fun i => (#[(0, 0)] : Array (Nat × Nat))[i]?) := by kernel_rfl
theorem isAgg58 : isAggB Try.prog 58 = some true := by kernel_rfl
theorem tsz58 : (Try.prog.types[58]'(of_decide_eq_true (by kernel_rfl))).size = 0 := by kernel_rfl
theorem size58 : sizeB Try.prog 58 = some 0 := by kernel_rfl
theorem intK58 : intKindB Try.prog 58 = none := by kernel_rfl
theorem elem58 : elemB Try.prog 58 = none := by kernel_rfl
theorem zero58 : zeroC Try.prog 58 = some [] := by kernel_rfl
theorem field58_0 : fieldB Try.prog 58 0 = some (0, 56) := by kernel_rfl
theorem places58 : placesOf Try.prog 58 = some (fun i => (#[(0, 0)] : Array (Nat × Nat))[i]?) := by kernel_rfl
theorem isAgg60 : isAggB Try.prog 60 = some false := by kernel_rfl
theorem tsz60 : (Try.prog.types[60]'(of_decide_eq_true (by kernel_rfl))).size = 1 := by kernel_rfl
theorem size60 : sizeB Try.prog 60 = some 1 := by kernel_rfl
theorem intK60 : intKindB Try.prog 60 = some .u32 := by kernel_rfl
theorem elem60 : elemB Try.prog 60 = none := by kernel_rfl
theorem zero60 : zeroC Try.prog 60 = some [.int .u32 0] := by kernel_rfl
theorem isAgg61 : isAggB Try.prog 61 = some false := by kernel_rfl
theorem tsz61 : (Try.prog.types[61]'(of_decide_eq_true (by kernel_rfl))).size = 1 := by kernel_rfl
theorem size61 : sizeB Try.prog 61 = some 1 := by kernel_rfl
theorem intK61 : intKindB Try.prog 61 = some .u8 := by kernel_rfl
theorem elem61 : elemB Try.prog 61 = none := by kernel_rfl
theorem und61 : Try.prog.underlying 61 = some (.int .u8) := by kernel_rfl
theorem zero61 : zeroC Try.prog 61 = some [.int .u8 0] := by kernel_rfl
theorem isAgg62 : isAggB Try.prog 62 = some false := by kernel_rfl
theorem tsz62 : (Try.prog.types[62]'(of_decide_eq_true (by kernel_rfl))).size = 1 := by kernel_rfl
theorem size62 : sizeB Try.prog 62 = some 1 := by kernel_rfl
theorem intK62 : intKindB Try.prog 62 = some .u8 := by kernel_rfl
theorem elem62 : elemB Try.prog 62 = none := by kernel_rfl
theorem und62 : Try.prog.underlying 62 = some (.int .u8) := by kernel_rfl
theorem zero62 : zeroC Try.prog 62 = some [.int .u8 0] := by kernel_rfl
theorem isAgg65 : isAggB Try.prog 65 = some false := by kernel_rfl
theorem tsz65 : (Try.prog.types[65]'(of_decide_eq_true (by kernel_rfl))).size = 1 := by kernel_rfl
theorem size65 : sizeB Try.prog 65 = some 1 := by kernel_rfl
theorem intK65 : intKindB Try.prog 65 = some .i32 := by kernel_rfl
theorem elem65 : elemB Try.prog 65 = none := by kernel_rfl
theorem zero65 : zeroC Try.prog 65 = some [.int .i32 0] := by kernel_rfl
theorem isAgg66 : isAggB Try.prog 66 = some false := by kernel_rfl
theorem tsz66 : (Try.prog.types[66]'(of_decide_eq_true (by kernel_rfl))).size = 1 := by kernel_rfl
theorem size66 : sizeB Try.prog 66 = some 1 := by kernel_rfl
theorem intK66 : intKindB Try.prog 66 = some .i32 := by kernel_rfl
theorem elem66 : elemB Try.prog 66 = none := by kernel_rfl
theorem zero66 : zeroC Try.prog 66 = some [.int .i32 0] := by kernel_rfl
theorem isAgg67 : isAggB Try.prog 67 = some true := by kernel_rfl
theorem tsz67 : (Try.prog.types[67]'(of_decide_eq_true (by kernel_rfl))).size = 11 := by kernel_rfl
theorem size67 : sizeB Try.prog 67 = some 11 := by kernel_rfl
theorem intK67 : intKindB Try.prog 67 = none := by kernel_rfl
theorem elem67 : elemB Try.prog 67 = none := by kernel_rfl
theorem zero67 : zeroC Try.prog 67 = some [.int .u64 0, .int .u64 0, .int .u32 0, .int .u8 0, .int .u8 0, .int .u8 0, .int .u8 0, .nilFunc, .pointer none, .int .i32 0, .int .i32 0] := by kernel_rfl
theorem field67_0 : fieldB Try.prog 67 0 = some (0, 12) := by kernel_rfl
theorem field67_1 : fieldB Try.prog 67 1 = some (1, 12) := by kernel_rfl
theorem field67_2 : fieldB Try.prog 67 2 = some (2, 60) := by kernel_rfl
theorem field67_3 : fieldB Try.prog 67 3 = some (3, 61) := by kernel_rfl
theorem field67_4 : fieldB Try.prog 67 4 = some (4, 5) := by kernel_rfl
theorem field67_5 : fieldB Try.prog 67 5 = some (5, 5) := by kernel_rfl
theorem field67_6 : fieldB Try.prog 67 6 = some (6, 62) := by kernel_rfl
theorem field67_7 : fieldB Try.prog 67 7 = some (7, 63) := by kernel_rfl
theorem field67_8 : fieldB Try.prog 67 8 = some (8, 64) := by kernel_rfl
theorem field67_9 : fieldB Try.prog 67 9 = some (9, 65) := by kernel_rfl
theorem field67_10 : fieldB Try.prog 67 10 = some (10, 66) := by kernel_rfl
theorem isAgg68 : isAggB Try.prog 68 = some true := by kernel_rfl
theorem tsz68 : (Try.prog.types[68]'(of_decide_eq_true (by kernel_rfl))).size = 11 := by kernel_rfl
theorem size68 : sizeB Try.prog 68 = some 11 := by kernel_rfl
theorem intK68 : intKindB Try.prog 68 = none := by kernel_rfl
theorem elem68 : elemB Try.prog 68 = none := by kernel_rfl
theorem zero68 : zeroC Try.prog 68 = some [.int .u64 0, .int .u64 0, .int .u32 0, .int .u8 0, .int .u8 0, .int .u8 0, .int .u8 0, .nilFunc, .pointer none, .int .i32 0, .int .i32 0] := by kernel_rfl
theorem field68_0 : fieldB Try.prog 68 0 = some (0, 12) := by kernel_rfl
theorem field68_1 : fieldB Try.prog 68 1 = some (1, 12) := by kernel_rfl
theorem field68_2 : fieldB Try.prog 68 2 = some (2, 60) := by kernel_rfl
theorem field68_3 : fieldB Try.prog 68 3 = some (3, 61) := by kernel_rfl
theorem field68_4 : fieldB Try.prog 68 4 = some (4, 5) := by kernel_rfl
theorem field68_5 : fieldB Try.prog 68 5 = some (5, 5) := by kernel_rfl
theorem field68_6 : fieldB Try.prog 68 6 = some (6, 62) := by kernel_rfl
theorem field68_7 : fieldB Try.prog 68 7 = some (7, 63) := by kernel_rfl
theorem field68_8 : fieldB Try.prog 68 8 = some (8, 64) := by kernel_rfl
theorem field68_9 : fieldB Try.prog 68 9 = some (9, 65) := by kernel_rfl
theorem field68_10 : fieldB Try.prog 68 10 = some (10, 66) := by kernel_rfl
theorem fnOk3 : FnOk Try.prog 3 := ⟨_, _, Try.func3, rfl, rfl⟩
theorem fnOk4 : FnOk Try.prog 4 := ⟨_, _, Try.func4, rfl, rfl⟩
theorem fnOk5 : FnOk Try.prog 5 := ⟨_, _, Try.func5, rfl, rfl⟩
theorem fnOk6 : FnOk Try.prog 6 := ⟨_, _, Try.func6, rfl, rfl⟩
theorem fnOk7 : FnOk Try.prog 7 := ⟨_, _, Try.func7, rfl, rfl⟩
theorem fnOk8 : FnOk Try.prog 8 := ⟨_, _, Try.func8, rfl, rfl⟩
theorem fnOk9 : FnOk Try.prog 9 := ⟨_, _, Try.func9, rfl, rfl⟩
theorem fnOk10 : FnOk Try.prog 10 := ⟨_, _, Try.func10, rfl, rfl⟩
theorem fnOk11 : FnOk Try.prog 11 := ⟨_, _, Try.func11, rfl, rfl⟩
theorem fnOk12 : FnOk Try.prog 12 := ⟨_, _, Try.func12, rfl, rfl⟩
theorem fnOk13 : FnOk Try.prog 13 := ⟨_, _, Try.func13, rfl, rfl⟩
theorem fnOk14 : FnOk Try.prog 14 := ⟨_, _, Try.func14, rfl, rfl⟩
theorem fnOk15 : FnOk Try.prog 15 := ⟨_, _, Try.func15, rfl, rfl⟩
theorem fnOk16 : FnOk Try.prog 16 := ⟨_, _, Try.func16, rfl, rfl⟩
theorem fnOk17 : FnOk Try.prog 17 := ⟨_, _, Try.func17, rfl, rfl⟩
theorem fnOk18 : FnOk Try.prog 18 := ⟨_, _, Try.func18, rfl, rfl⟩
theorem fnOk19 : FnOk Try.prog 19 := ⟨_, _, Try.func19, rfl, rfl⟩
theorem fnOk20 : FnOk Try.prog 20 := ⟨_, _, Try.func20, rfl, rfl⟩
theorem fnOk21 : FnOk Try.prog 21 := ⟨_, _, Try.func21, rfl, rfl⟩
theorem fnOk22 : FnOk Try.prog 22 := ⟨_, _, Try.func22, rfl, rfl⟩
theorem fnOk23 : FnOk Try.prog 23 := ⟨_, _, Try.func23, rfl, rfl⟩
theorem fnOk24 : FnOk Try.prog 24 := ⟨_, _, Try.func24, rfl, rfl⟩
end Go.Proofs.Ytoogjgmlbphldaa
