/- Closed facts on the types of the program, for the walk over plain values. -/
import Derived.Test.YtilfmeknjmdnoaaPw16
import Derived.Test.YtilfmeknjmdnoaaProg
namespace Go.Proofs.Ytilfmeknjmdnoaa
open Go Go.RowKit
theorem isAgg2 : isAggB Try.prog 2 = some false := by kernel_rfl
theorem tsz2 : (Try.prog.types[2]'(of_decide_eq_true (by kernel_rfl))).size = 1 := by kernel_rfl
theorem size2 : sizeB Try.prog 2 = some 1 := by kernel_rfl
theorem intK2 : intKindB Try.prog 2 = some .i64 := by kernel_rfl
theorem elem2 : elemB Try.prog 2 = none := by kernel_rfl
theorem zero2 : zeroC Try.prog 2 = some [.int .i64 0] := by kernel_rfl
theorem isAgg3 : isAggB Try.prog 3 = some false := by kernel_rfl
theorem tsz3 : (Try.prog.types[3]'(of_decide_eq_true (by kernel_rfl))).size = 1 := by kernel_rfl
theorem size3 : sizeB Try.prog 3 = some 1 := by kernel_rfl
theorem intK3 : intKindB Try.prog 3 = some .i64 := by kernel_rfl
theorem elem3 : elemB Try.prog 3 = none := by kernel_rfl
theorem zero3 : zeroC Try.prog 3 = some [.int .i64 0] := by kernel_rfl
theorem isAgg4 : isAggB Try.prog 4 = some false := by kernel_rfl
theorem tsz4 : (Try.prog.types[4]'(of_decide_eq_true (by kernel_rfl))).size = 1 := by kernel_rfl
theorem size4 : sizeB Try.prog 4 = some 1 := by kernel_rfl
theorem intK4 : intKindB Try.prog 4 = none := by kernel_rfl
theorem elem4 : elemB Try.prog 4 = none := by kernel_rfl
theorem und4 : Try.prog.underlying 4 = some .bool := by kernel_rfl
theorem zero4 : zeroC Try.prog 4 = some [.bool false] := by kernel_rfl
theorem isAgg5 : isAggB Try.prog 5 = some false := by kernel_rfl
theorem tsz5 : (Try.prog.types[5]'(of_decide_eq_true (by kernel_rfl))).size = 1 := by kernel_rfl
theorem size5 : sizeB Try.prog 5 = some 1 := by kernel_rfl
theorem intK5 : intKindB Try.prog 5 = some .u8 := by kernel_rfl
theorem elem5 : elemB Try.prog 5 = none := by kernel_rfl
theorem und5 : Try.prog.underlying 5 = some (.int .u8) := by kernel_rfl
theorem zero5 : zeroC Try.prog 5 = some [.int .u8 0] := by kernel_rfl
theorem isAgg6 : isAggB Try.prog 6 = some false := by kernel_rfl
theorem tsz6 : (Try.prog.types[6]'(of_decide_eq_true (by kernel_rfl))).size = 1 := by kernel_rfl
theorem size6 : sizeB Try.prog 6 = some 1 := by kernel_rfl
theorem intK6 : intKindB Try.prog 6 = some .u8 := by kernel_rfl
theorem elem6 : elemB Try.prog 6 = none := by kernel_rfl
theorem und6 : Try.prog.underlying 6 = some (.int .u8) := by kernel_rfl
theorem zero6 : zeroC Try.prog 6 = some [.int .u8 0] := by kernel_rfl
theorem isAgg7 : isAggB Try.prog 7 = some true := by kernel_rfl
theorem tsz7 : (Try.prog.types[7]'(of_decide_eq_true (by kernel_rfl))).size = 4 := by kernel_rfl
theorem size7 : sizeB Try.prog 7 = some 4 := by kernel_rfl
theorem intK7 : intKindB Try.prog 7 = none := by kernel_rfl
theorem elem7 : elemB Try.prog 7 = none := by kernel_rfl
theorem zero7 : zeroC Try.prog 7 = some [.int .i64 0, .int .i64 0, .bool false, .int .u8 0] := by kernel_rfl
theorem field7_0 : fieldB Try.prog 7 0 = some (0, 2) := by kernel_rfl
theorem field7_1 : fieldB Try.prog 7 1 = some (1, 3) := by kernel_rfl
theorem field7_2 : fieldB Try.prog 7 2 = some (2, 4) := by kernel_rfl
theorem field7_3 : fieldB Try.prog 7 3 = some (3, 6) := by kernel_rfl
theorem places7 : placesOf Try.prog 7 = some (fun i => (#[(0, 1), (1, 1), (2, 1), (3, 1)] : Array (Nat × Nat))[i]?) := by kernel_rfl
theorem isAgg8 : isAggB Try.prog 8 = some true := by kernel_rfl
theorem tsz8 : (Try.prog.types[8]'(of_decide_eq_true (by kernel_rfl))).size = 4 := by kernel_rfl
theorem size8 : sizeB Try.prog 8 = some 4 := by kernel_rfl
theorem intK8 : intKindB Try.prog 8 = none := by kernel_rfl
theorem elem8 : elemB Try.prog 8 = none := by kernel_rfl
theorem zero8 : zeroC Try.prog 8 = some [.int .i64 0, .int .i64 0, .bool false, .int .u8 0] := by kernel_rfl
theorem field8_0 : fieldB Try.prog 8 0 = some (0, 2) := by kernel_rfl
theorem field8_1 : fieldB Try.prog 8 1 = some (1, 3) := by kernel_rfl
theorem field8_2 : fieldB Try.prog 8 2 = some (2, 4) := by kernel_rfl
theorem field8_3 : fieldB Try.prog 8 3 = some (3, 6) := by kernel_rfl
theorem places8 : placesOf Try.prog 8 = some (fun i => (#[(0, 1), (1, 1), (2, 1), (3, 1)] : Array (Nat × Nat))[i]?) := by kernel_rfl
theorem isAgg9 : isAggB Try.prog 9 = some false := by kernel_rfl
theorem tsz9 : (Try.prog.types[9]'(of_decide_eq_true (by kernel_rfl))).size = 1 := by kernel_rfl
theorem size9 : sizeB Try.prog 9 = some 1 := by kernel_rfl
theorem intK9 : intKindB Try.prog 9 = none := by kernel_rfl
theorem elem9 : elemB Try.prog 9 = none := by kernel_rfl
theorem und9 : Try.prog.underlying 9 = some .string := by kernel_rfl
theorem zero9 : zeroC Try.prog 9 = some [.string ByteArray.empty] := by kernel_rfl
theorem isAgg10 : isAggB Try.prog 10 = some false := by kernel_rfl
theorem tsz10 : (Try.prog.types[10]'(of_decide_eq_true (by kernel_rfl))).size = 1 := by kernel_rfl
theorem size10 : sizeB Try.prog 10 = some 1 := by kernel_rfl
theorem intK10 : intKindB Try.prog 10 = none := by kernel_rfl
theorem elem10 : elemB Try.prog 10 = none := by kernel_rfl
theorem und10 : Try.prog.underlying 10 = some .string := by kernel_rfl
theorem zero10 : zeroC Try.prog 10 = some [.string ByteArray.empty] := by kernel_rfl
theorem isAgg11 : isAggB Try.prog 11 = some false := by kernel_rfl
theorem tsz11 : (Try.prog.types[11]'(of_decide_eq_true (by kernel_rfl))).size = 1 := by kernel_rfl
theorem size11 : sizeB Try.prog 11 = some 1 := by kernel_rfl
theorem intK11 : intKindB Try.prog 11 = none := by kernel_rfl
theorem elem11 : elemB Try.prog 11 = none := by kernel_rfl
theorem und11 : Try.prog.underlying 11 = some .string := by kernel_rfl
theorem zero11 : zeroC Try.prog 11 = some [.string ByteArray.empty] := by kernel_rfl
theorem isAgg12 : isAggB Try.prog 12 = some false := by kernel_rfl
theorem tsz12 : (Try.prog.types[12]'(of_decide_eq_true (by kernel_rfl))).size = 1 := by kernel_rfl
theorem size12 : sizeB Try.prog 12 = some 1 := by kernel_rfl
theorem intK12 : intKindB Try.prog 12 = some .u64 := by kernel_rfl
theorem elem12 : elemB Try.prog 12 = none := by kernel_rfl
theorem zero12 : zeroC Try.prog 12 = some [.int .u64 0] := by kernel_rfl
theorem isAgg13 : isAggB Try.prog 13 = some true := by kernel_rfl
theorem tsz13 : (Try.prog.types[13]'(of_decide_eq_true (by kernel_rfl))).size = 2 := by kernel_rfl
theorem size13 : sizeB Try.prog 13 = some 2 := by kernel_rfl
theorem intK13 : intKindB Try.prog 13 = none := by kernel_rfl
theorem elem13 : elemB Try.prog 13 = none := by kernel_rfl
theorem zero13 : zeroC Try.prog 13 = some [.string ByteArray.empty, .int .u64 0] := by kernel_rfl
theorem field13_0 : fieldB Try.prog 13 0 = some (0, 9) := by kernel_rfl
theorem field13_1 : fieldB Try.prog 13 1 = some (1, 12) := by kernel_rfl
theorem places13 : placesOf Try.prog 13 = some (fun i => (#[(0, 1), (1, 1)] : Array (Nat × Nat))[i]?) := by kernel_rfl
theorem isAgg14 : isAggB Try.prog 14 = some true := by kernel_rfl
theorem tsz14 : (Try.prog.types[14]'(of_decide_eq_true (by kernel_rfl))).size = 2 := by kernel_rfl
theorem size14 : sizeB Try.prog 14 = some 2 := by kernel_rfl
theorem intK14 : intKindB Try.prog 14 = none := by kernel_rfl
theorem elem14 : elemB Try.prog 14 = none := by kernel_rfl
theorem zero14 : zeroC Try.prog 14 = some [.string ByteArray.empty, .int .u64 0] := by kernel_rfl
theorem field14_0 : fieldB Try.prog 14 0 = some (0, 9) := by kernel_rfl
theorem field14_1 : fieldB Try.prog 14 1 = some (1, 12) := by kernel_rfl
theorem places14 : placesOf Try.prog 14 = some (fun i => (#[(0, 1), (1, 1)] : Array (Nat × Nat))[i]?) := by kernel_rfl
theorem isAgg18 : isAggB Try.prog 18 = some true := by kernel_rfl
theorem tsz18 : (Try.prog.types[18]'(of_decide_eq_true (by kernel_rfl))).size = 1 := by kernel_rfl
theorem size18 : sizeB Try.prog 18 = some 1 := by kernel_rfl
theorem intK18 : intKindB Try.prog 18 = none := by kernel_rfl
theorem elem18 : elemB Try.prog 18 = none := by kernel_rfl
theorem zero18 : zeroC Try.prog 18 = some [.pointer none] := by kernel_rfl
theorem field18_0 : fieldB Try.prog 18 0 = some (0, 17) := by kernel_rfl
theorem isAgg19 : isAggB Try.prog 19 = some true := by kernel_rfl
theorem tsz19 : (Try.prog.types[19]'(of_decide_eq_true (by kernel_rfl))).size = 1 := by kernel_rfl
theorem size19 : sizeB Try.prog 19 = some 1 := by kernel_rfl
theorem intK19 : intKindB Try.prog 19 = none := by kernel_rfl
theorem elem19 : elemB Try.prog 19 = none := by kernel_rfl
theorem zero19 : zeroC Try.prog 19 = some [.pointer none] := by kernel_rfl
theorem field19_0 : fieldB Try.prog 19 0 = some (0, 17) := by kernel_rfl
theorem isAgg21 : isAggB Try.prog 21 = some false := by kernel_rfl
theorem tsz21 : (Try.prog.types[21]'(of_decide_eq_true (by kernel_rfl))).size = 1 := by kernel_rfl
theorem size21 : sizeB Try.prog 21 = some 1 := by kernel_rfl
theorem intK21 : intKindB Try.prog 21 = some .i32 := by kernel_rfl
theorem elem21 : elemB Try.prog 21 = none := by kernel_rfl
theorem zero21 : zeroC Try.prog 21 = some [.int .i32 0] := by kernel_rfl
theorem isAgg22 : isAggB Try.prog 22 = some false := by kernel_rfl
theorem tsz22 : (Try.prog.types[22]'(of_decide_eq_true (by kernel_rfl))).size = 1 := by kernel_rfl
theorem size22 : sizeB Try.prog 22 = some 1 := by kernel_rfl
theorem intK22 : intKindB Try.prog 22 = none := by kernel_rfl
theorem elem22 : elemB Try.prog 22 = some 5 := by kernel_rfl
theorem zero22 : zeroC Try.prog 22 = some [.slice none 0 0] := by kernel_rfl
theorem elty22 : eltyB Try.prog 22 = some (5, 1, 1, [.int .u8 0]) := by kernel_rfl
theorem isAgg23 : isAggB Try.prog 23 = some false := by kernel_rfl
theorem tsz23 : (Try.prog.types[23]'(of_decide_eq_true (by kernel_rfl))).size = 1 := by kernel_rfl
theorem size23 : sizeB Try.prog 23 = some 1 := by kernel_rfl
theorem intK23 : intKindB Try.prog 23 = some .u64 := by kernel_rfl
theorem elem23 : elemB Try.prog 23 = none := by kernel_rfl
theorem zero23 : zeroC Try.prog 23 = some [.int .u64 0] := by kernel_rfl
theorem isAgg24 : isAggB Try.prog 24 = some true := by kernel_rfl
theorem tsz24 : (Try.prog.types[24]'(of_decide_eq_true (by kernel_rfl))).size = 11 := by kernel_rfl
theorem size24 : sizeB Try.prog 24 = some 11 := by kernel_rfl
theorem intK24 : intKindB Try.prog 24 = none := by kernel_rfl
theorem elem24 : elemB Try.prog 24 = none := by kernel_rfl
theorem zero24 : zeroC Try.prog 24 = some [.slice none 0 0, .int .i64 0, .int .i64 0, .int .i64 0, .int .i64 0, .int .i64 0, .int .i64 0, .int .i64 0, .int .i64 0, .int .u64 0, .int .u64 0] := by kernel_rfl
theorem field24_0 : fieldB Try.prog 24 0 = some (0, 22) := by kernel_rfl
theorem field24_1 : fieldB Try.prog 24 1 = some (1, 3) := by kernel_rfl
theorem field24_2 : fieldB Try.prog 24 2 = some (2, 3) := by kernel_rfl
theorem field24_3 : fieldB Try.prog 24 3 = some (3, 3) := by kernel_rfl
theorem field24_4 : fieldB Try.prog 24 4 = some (4, 3) := by kernel_rfl
theorem field24_5 : fieldB Try.prog 24 5 = some (5, 3) := by kernel_rfl
theorem field24_6 : fieldB Try.prog 24 6 = some (6, 3) := by kernel_rfl
theorem field24_7 : fieldB Try.prog 24 7 = some (7, 3) := by kernel_rfl
theorem field24_8 : fieldB Try.prog 24 8 = some (8, 3) := by kernel_rfl
theorem field24_9 : fieldB Try.prog 24 9 = some (9, 23) := by kernel_rfl
theorem field24_10 : fieldB Try.prog 24 10 = some (10, 23) := by kernel_rfl
theorem places24 : placesOf Try.prog 24 = some (fun i => (#[(0, 1), (1, 1), (2, 1), (3, 1), (4, 1), (5, 1), (6, 1), (7, 1), (8, 1), (9, 1), (10, 1)] : Array (Nat × Nat))[i]?) := by kernel_rfl
theorem isAgg25 : isAggB Try.prog 25 = some true := by kernel_rfl
theorem tsz25 : (Try.prog.types[25]'(of_decide_eq_true (by kernel_rfl))).size = 11 := by kernel_rfl
theorem size25 : sizeB Try.prog 25 = some 11 := by kernel_rfl
theorem intK25 : intKindB Try.prog 25 = none := by kernel_rfl
theorem elem25 : elemB Try.prog 25 = none := by kernel_rfl
theorem zero25 : zeroC Try.prog 25 = some [.slice none 0 0, .int .i64 0, .int .i64 0, .int .i64 0, .int .i64 0, .int .i64 0, .int .i64 0, .int .i64 0, .int .i64 0, .int .u64 0, .int .u64 0] := by kernel_rfl
theorem field25_0 : fieldB Try.prog 25 0 = some (0, 22) := by kernel_rfl
theorem field25_1 : fieldB Try.prog 25 1 = some (1, 3) := by kernel_rfl
theorem field25_2 : fieldB Try.prog 25 2 = some (2, 3) := by kernel_rfl
theorem field25_3 : fieldB Try.prog 25 3 = some (3, 3) := by kernel_rfl
theorem field25_4 : fieldB Try.prog 25 4 = some (4, 3) := by kernel_rfl
theorem field25_5 : fieldB Try.prog 25 5 = some (5, 3) := by kernel_rfl
theorem field25_6 : fieldB Try.prog 25 6 = some (6, 3) := by kernel_rfl
theorem field25_7 : fieldB Try.prog 25 7 = some (7, 3) := by kernel_rfl
theorem field25_8 : fieldB Try.prog 25 8 = some (8, 3) := by kernel_rfl
theorem field25_9 : fieldB Try.prog 25 9 = some (9, 23) := by kernel_rfl
theorem field25_10 : fieldB Try.prog 25 10 = some (10, 23) := by kernel_rfl
theorem places25 : placesOf Try.prog 25 = some (fun i => (#[(0, 1), (1, 1), (2, 1), (3, 1), (4, 1), (5, 1), (6, 1), (7, 1), (8, 1), (9, 1), (10, 1)] : Array (Nat × Nat))[i]?) := by kernel_rfl
theorem isAgg26 : isAggB Try.prog 26 = some false := by kernel_rfl
theorem tsz26 : (Try.prog.types[26]'(of_decide_eq_true (by kernel_rfl))).size = 1 := by kernel_rfl
theorem size26 : sizeB Try.prog 26 = some 1 := by kernel_rfl
theorem intK26 : intKindB Try.prog 26 = none := by kernel_rfl
theorem elem26 : elemB Try.prog 26 = some 53 := by kernel_rfl
theorem zero26 : zeroC Try.prog 26 = some [.slice none 0 0] := by kernel_rfl
theorem elty26 : eltyB Try.prog 26 = some (53, 2, 32, [.int .u64 0, .slice none 0 0]) := by kernel_rfl
theorem isAgg27 : isAggB Try.prog 27 = some false := by kernel_rfl
theorem tsz27 : (Try.prog.types[27]'(of_decide_eq_true (by kernel_rfl))).size = 1 := by kernel_rfl
theorem size27 : sizeB Try.prog 27 = some 1 := by kernel_rfl
theorem intK27 : intKindB Try.prog 27 = none := by kernel_rfl
theorem elem27 : elemB Try.prog 27 = some 3 := by kernel_rfl
theorem zero27 : zeroC Try.prog 27 = some [.slice none 0 0] := by kernel_rfl
theorem elty27 : eltyB Try.prog 27 = some (3, 1, 8, [.int .i64 0]) := by kernel_rfl
theorem isAgg28 : isAggB Try.prog 28 = some false := by kernel_rfl
theorem tsz28 : (Try.prog.types[28]'(of_decide_eq_true (by kernel_rfl))).size = 1 := by kernel_rfl
theorem size28 : sizeB Try.prog 28 = some 1 := by kernel_rfl
theorem intK28 : intKindB Try.prog 28 = none := by kernel_rfl
theorem elem28 : elemB Try.prog 28 = some 49 := by kernel_rfl
theorem zero28 : zeroC Try.prog 28 = some [.slice none 0 0] := by kernel_rfl
theorem elty28 : eltyB Try.prog 28 = some (49, 1, 24, [.slice none 0 0]) := by kernel_rfl
theorem isAgg29 : isAggB Try.prog 29 = some true := by kernel_rfl
theorem tsz29 : (Try.prog.types[29]'(of_decide_eq_true (by kernel_rfl))).size = 3 := by kernel_rfl
theorem size29 : sizeB Try.prog 29 = some 3 := by kernel_rfl
theorem intK29 : intKindB Try.prog 29 = none := by kernel_rfl
theorem elem29 : elemB Try.prog 29 = none := by kernel_rfl
theorem zero29 : zeroC Try.prog 29 = some [.slice none 0 0, .slice none 0 0, .slice none 0 0] := by kernel_rfl
theorem field29_0 : fieldB Try.prog 29 0 = some (0, 26) := by kernel_rfl
theorem field29_1 : fieldB Try.prog 29 1 = some (1, 27) := by kernel_rfl
theorem field29_2 : fieldB Try.prog 29 2 = some (2, 28) := by kernel_rfl
theorem places29 : placesOf Try.prog 29 = some (fun i => (#[(0, 1), (1, 1), (2, 1)] : Array (Nat × Nat))[i]?) := by kernel_rfl
theorem isAgg30 : isAggB Try.prog 30 = some true := by kernel_rfl
theorem tsz30 : (Try.prog.types[30]'(of_decide_eq_true (by kernel_rfl))).size = 3 := by kernel_rfl
theorem size30 : sizeB Try.prog 30 = some 3 := by kernel_rfl
theorem intK30 : intKindB Try.prog 30 = none := by kernel_rfl
theorem elem30 : elemB Try.prog 30 = none := by kernel_rfl
theorem zero30 : zeroC Try.prog 30 = some [.slice none 0 0, .slice none 0 0, .slice none 0 0] := by kernel_rfl
theorem field30_0 : fieldB Try.prog 30 0 = some (0, 26) := by kernel_rfl
theorem field30_1 : fieldB Try.prog 30 1 = some (1, 27) := by kernel_rfl
theorem field30_2 : fieldB Try.prog 30 2 = some (2, 28) := by kernel_rfl
theorem places30 : placesOf Try.prog 30 = some (fun i => (#[(0, 1), (1, 1), (2, 1)] : Array (Nat × Nat))[i]?) := by kernel_rfl
theorem isAgg33 : isAggB Try.prog 33 = some false := by kernel_rfl
theorem tsz33 : (Try.prog.types[33]'(of_decide_eq_true (by kernel_rfl))).size = 1 := by kernel_rfl
theorem size33 : sizeB Try.prog 33 = some 1 := by kernel_rfl
theorem intK33 : intKindB Try.prog 33 = some .i64 := by kernel_rfl
theorem elem33 : elemB Try.prog 33 = none := by kernel_rfl
theorem zero33 : zeroC Try.prog 33 = some [.int .i64 0] := by kernel_rfl
theorem isAgg42 : isAggB Try.prog 42 = some true := by kernel_rfl
theorem tsz42 : (Try.prog.types[42]'(of_decide_eq_true (by kernel_rfl))).size = 5 := by kernel_rfl
theorem size42 : sizeB Try.prog 42 = some 5 := by kernel_rfl
theorem intK42 : intKindB Try.prog 42 = none := by kernel_rfl
theorem elem42 : elemB Try.prog 42 = none := by kernel_rfl
theorem zero42 : zeroC Try.prog 42 = some [.bool false, .int .i64 0, .int .i64 0, .int .u64 0, .slice none 0 0] := by kernel_rfl
theorem field42_0 : fieldB Try.prog 42 0 = some (0, 4) := by kernel_rfl
theorem field42_1 : fieldB Try.prog 42 1 = some (1, 3) := by kernel_rfl
theorem field42_2 : fieldB Try.prog 42 2 = some (2, 3) := by kernel_rfl
theorem field42_3 : fieldB Try.prog 42 3 = some (3, 23) := by kernel_rfl
theorem field42_4 : fieldB Try.prog 42 4 = some (4, 22) := by kernel_rfl
theorem places42 : placesOf Try.prog 42 = some (fun i => (#[(0, 1), (1, 1), (2, 1), (3, 1), (4, 1)] : Array (Nat × Nat))[i]?) := by kernel_rfl
theorem isAgg43 : isAggB Try.prog 43 = some true := by kernel_rfl
theorem tsz43 : (Try.prog.types[43]'(of_decide_eq_true (by kernel_rfl))).size = 5 := by kernel_rfl
theorem size43 : sizeB Try.prog 43 = some 5 := by kernel_rfl
theorem intK43 : intKindB Try.prog 43 = none := by kernel_rfl
theorem elem43 : elemB Try.prog 43 = none := by kernel_rfl
theorem zero43 : zeroC Try.prog 43 = some [.bool false, .int .i64 0, .int .i64 0, .int .u64 0, .slice none 0 0] := by kernel_rfl
theorem field43_0 : fieldB Try.prog 43 0 = some (0, 4) := by kernel_rfl
theorem field43_1 : fieldB Try.prog 43 1 = some (1, 3) := by kernel_rfl
theorem field43_2 : fieldB Try.prog 43 2 = some (2, 3) := by kernel_rfl
theorem field43_3 : fieldB Try.prog 43 3 = some (3, 23) := by kernel_rfl
theorem field43_4 : fieldB Try.prog 43 4 = some (4, 22) := by kernel_rfl
theorem places43 : placesOf Try.prog 43 = some (fun i => (#[(0, 1), (1, 1), (2, 1), (3, 1), (4, 1)] : Array (Nat × Nat))[i]?) := by kernel_rfl
theorem isAgg49 : isAggB Try.prog 49 = some false := by kernel_rfl
theorem tsz49 : (Try.prog.types[49]'(of_decide_eq_true (by kernel_rfl))).size = 1 := by kernel_rfl
theorem size49 : sizeB Try.prog 49 = some 1 := by kernel_rfl
theorem intK49 : intKindB Try.prog 49 = none := by kernel_rfl
theorem elem49 : elemB Try.prog 49 = some 43 := by kernel_rfl
theorem zero49 : zeroC Try.prog 49 = some [.slice none 0 0] := by kernel_rfl
theorem elty49 : eltyB Try.prog 49 = some (43, 5, 56, [.bool false, .int .i64 0, .int .i64 0, .int .u64 0, .slice none 0 0]) := by kernel_rfl
theorem isAgg52 : isAggB Try.prog 52 = some true := by kernel_rfl
theorem tsz52 : (Try.prog.types[52]'(of_decide_eq_true (by kernel_rfl))).size = 2 := by kernel_rfl
theorem size52 : sizeB Try.prog 52 = some 2 := by kernel_rfl
theorem intK52 : intKindB Try.prog 52 = none := by kernel_rfl
theorem elem52 : elemB Try.prog 52 = none := by kernel_rfl
theorem zero52 : zeroC Try.prog 52 = some [.int .u64 0, .slice none 0 0] := by kernel_rfl
theorem field52_0 : fieldB Try.prog 52 0 = some (0, 23) := by kernel_rfl
theorem field52_1 : fieldB Try.prog 52 1 = some (1, 49) := by kernel_rfl
theorem places52 : placesOf Try.prog 52 = some (fun i => (#[(0, 1), (1, 1)] : Array (Nat × Nat))[i]?) := by kernel_rfl
theorem isAgg53 : isAggB Try.prog 53 = some true := by kernel_rfl
theorem tsz53 : (Try.prog.types[53]'(of_decide_eq_true (by kernel_rfl))).size = 2 := by kernel_rfl
theorem size53 : sizeB Try.prog 53 = some 2 := by kernel_rfl
theorem intK53 : intKindB Try.prog 53 = none := by kernel_rfl
theorem elem53 : elemB Try.prog 53 = none := by kernel_rfl
theorem zero53 : zeroC Try.prog 53 = some [.int .u64 0, .slice none 0 0] := by kernel_rfl
theorem field53_0 : fieldB Try.prog 53 0 = some (0, 23) := by kernel_rfl
theorem field53_1 : fieldB Try.prog 53 1 = some (1, 49) := by kernel_rfl
theorem places53 : placesOf Try.prog 53 = some (fun i => (#[(0, 1), (1, 1)] : Array (Nat × Nat))[i]?) := by kernel_rfl
theorem isAgg55 : isAggB Try.prog 55 = some false := by kernel_rfl
theorem tsz55 : (Try.prog.types[55]'(of_decide_eq_true (by kernel_rfl))).size = 1 := by kernel_rfl
theorem size55 : sizeB Try.prog 55 = some 1 := by kernel_rfl
theorem intK55 : intKindB Try.prog 55 = none := by kernel_rfl
theorem elem55 : elemB Try.prog 55 = some 30 := by kernel_rfl
theorem zero55 : zeroC Try.prog 55 = some [.slice none 0 0] := by kernel_rfl
theorem elty55 : eltyB Try.prog 55 = some (30, 3, 72, [.slice none 0 0, .slice none 0 0, .slice none 0 0]) := by kernel_rfl
theorem isAgg56 : isAggB Try.prog 56 = some false := by kernel_rfl
theorem tsz56 : (Try.prog.types[56]'(of_decide_eq_true (by kernel_rfl))).size = 1 := by kernel_rfl
theorem size56 : sizeB Try.prog 56 = some 1 := by kernel_rfl
theorem intK56 : intKindB Try.prog 56 = none := by kernel_rfl
theorem elem56 : elemB Try.prog 56 = some 4 := by kernel_rfl
theorem zero56 : zeroC Try.prog 56 = some [.slice none 0 0] := by kernel_rfl
theorem elty56 : eltyB Try.prog 56 = some (4, 1, 1, [.bool false]) := by kernel_rfl
theorem isAgg83 : isAggB Try.prog 83 = some true := by kernel_rfl
theorem tsz83 : (Try.prog.types[83]'(of_decide_eq_true (by kernel_rfl))).size = 4 := by kernel_rfl
theorem size83 : sizeB Try.prog 83 = some 4 := by kernel_rfl
theorem intK83 : intKindB Try.prog 83 = none := by kernel_rfl
theorem elem83 : elemB Try.prog 83 = none := by kernel_rfl
theorem zero83 : zeroC Try.prog 83 = some [.pointer none, .pointer none, .pointer none, .string ByteArray.empty] := by kernel_rfl
theorem field83_0 : fieldB Try.prog 83 0 = some (0, 17) := by kernel_rfl
theorem field83_1 : fieldB Try.prog 83 1 = some (1, 17) := by kernel_rfl
theorem field83_2 : fieldB Try.prog 83 2 = some (2, 17) := by kernel_rfl
theorem field83_3 : fieldB Try.prog 83 3 = some (3, 9) := by kernel_rfl
theorem isAgg84 : isAggB Try.prog 84 = some true := by kernel_rfl
theorem tsz84 : (Try.prog.types[84]'(of_decide_eq_true (by kernel_rfl))).size = 4 := by kernel_rfl
theorem size84 : sizeB Try.prog 84 = some 4 := by kernel_rfl
theorem intK84 : intKindB Try.prog 84 = none := by kernel_rfl
theorem elem84 : elemB Try.prog 84 = none := by kernel_rfl
theorem zero84 : zeroC Try.prog 84 = some [.pointer none, .pointer none, .pointer none, .string ByteArray.empty] := by kernel_rfl
theorem field84_0 : fieldB Try.prog 84 0 = some (0, 17) := by kernel_rfl
theorem field84_1 : fieldB Try.prog 84 1 = some (1, 17) := by kernel_rfl
theorem field84_2 : fieldB Try.prog 84 2 = some (2, 17) := by kernel_rfl
theorem field84_3 : fieldB Try.prog 84 3 = some (3, 9) := by kernel_rfl
theorem isAgg85 : isAggB Try.prog 85 = some true := by kernel_rfl
theorem tsz85 : (Try.prog.types[85]'(of_decide_eq_true (by kernel_rfl))).size = 0 := by kernel_rfl
theorem size85 : sizeB Try.prog 85 = some 0 := by kernel_rfl
theorem intK85 : intKindB Try.prog 85 = none := by kernel_rfl
theorem elem85 : elemB Try.prog 85 = none := by kernel_rfl
theorem arr85 : arrB Try.prog 85 = some (0, 16) := by kernel_rfl
theorem zero85 : zeroC Try.prog 85 = some [] := by kernel_rfl
theorem isAgg86 : isAggB Try.prog 86 = some true := by kernel_rfl
theorem tsz86 : (Try.prog.types[86]'(of_decide_eq_true (by kernel_rfl))).size = 0 := by kernel_rfl
theorem size86 : sizeB Try.prog 86 = some 0 := by kernel_rfl
theorem intK86 : intKindB Try.prog 86 = none := by kernel_rfl
theorem elem86 : elemB Try.prog 86 = none := by kernel_rfl
theorem zero86 : zeroC Try.prog 86 = some [] := by kernel_rfl
theorem field86_0 : fieldB Try.prog 86 0 = some (0, 85) := by kernel_rfl
theorem places86 : placesOf Try.prog 86 = some (fun i => (#[(0, 0)] : Array (Nat × Nat))[i]?) := by kernel_rfl
theorem isAgg87 : isAggB Try.prog 87 = some true := by kernel_rfl
theorem tsz87 : (Try.prog.types[87]'(of_decide_eq_true (by kernel_rfl))).size = 0 := by kernel_rfl
theorem size87 : sizeB Try.prog 87 = some 0 := by kernel_rfl
theorem intK87 : intKindB Try.prog 87 = none := by kernel_rfl
theorem elem87 : elemB Try.prog 87 = none := by kernel_rfl
theorem zero87 : zeroC Try.prog 87 = some [] := by kernel_rfl
theorem field87_0 : fieldB Try.prog 87 0 = some (0, 85) := by kernel_rfl
theorem places87 : placesOf Try.prog 87 = some (fun i => (#[(0, 0)] : Array (Nat × Nat))[i]?) := by kernel_rfl
theorem isAgg89 : isAggB Try.prog 89 = some false := by kernel_rfl
theorem tsz89 : (Try.prog.types[89]'(of_decide_eq_true (by kernel_rfl))).size = 1 := by kernel_rfl
theorem size89 : sizeB Try.prog 89 = some 1 := by kernel_rfl
theorem intK89 : intKindB Try.prog 89 = some .u32 := by kernel_rfl
theorem elem89 : elemB Try.prog 89 = none := by kernel_rfl
theorem zero89 : zeroC Try.prog 89 = some [.int .u32 0] := by kernel_rfl
theorem isAgg90 : isAggB Try.prog 90 = some false := by kernel_rfl
theorem tsz90 : (Try.prog.types[90]'(of_decide_eq_true (by kernel_rfl))).size = 1 := by kernel_rfl
theorem size90 : sizeB Try.prog 90 = some 1 := by kernel_rfl
theorem intK90 : intKindB Try.prog 90 = some .u8 := by kernel_rfl
theorem elem90 : elemB Try.prog 90 = none := by kernel_rfl
theorem und90 : Try.prog.underlying 90 = some (.int .u8) := by kernel_rfl
theorem zero90 : zeroC Try.prog 90 = some [.int .u8 0] := by kernel_rfl
theorem isAgg91 : isAggB Try.prog 91 = some false := by kernel_rfl
theorem tsz91 : (Try.prog.types[91]'(of_decide_eq_true (by kernel_rfl))).size = 1 := by kernel_rfl
theorem size91 : sizeB Try.prog 91 = some 1 := by kernel_rfl
theorem intK91 : intKindB Try.prog 91 = some .u8 := by kernel_rfl
theorem elem91 : elemB Try.prog 91 = none := by kernel_rfl
theorem und91 : Try.prog.underlying 91 = some (.int .u8) := by kernel_rfl
theorem zero91 : zeroC Try.prog 91 = some [.int .u8 0] := by kernel_rfl
theorem isAgg94 : isAggB Try.prog 94 = some false := by kernel_rfl
theorem tsz94 : (Try.prog.types[94]'(of_decide_eq_true (by kernel_rfl))).size = 1 := by kernel_rfl
theorem size94 : sizeB Try.prog 94 = some 1 := by kernel_rfl
theorem intK94 : intKindB Try.prog 94 = some .i32 := by kernel_rfl
theorem elem94 : elemB Try.prog 94 = none := by kernel_rfl
theorem zero94 : zeroC Try.prog 94 = some [.int .i32 0] := by kernel_rfl
theorem isAgg95 : isAggB Try.prog 95 = some false := by kernel_rfl
theorem tsz95 : (Try.prog.types[95]'(of_decide_eq_true (by kernel_rfl))).size = 1 := by kernel_rfl
theorem size95 : sizeB Try.prog 95 = some 1 := by kernel_rfl
theorem intK95 : intKindB Try.prog 95 = some .i32 := by kernel_rfl
theorem elem95 : elemB Try.prog 95 = none := by kernel_rfl
theorem zero95 : zeroC Try.prog 95 = some [.int .i32 0] := by kernel_rfl
theorem isAgg96 : isAggB Try.prog 96 = some true := by kernel_rfl
theorem tsz96 : (Try.prog.types[96]'(of_decide_eq_true (by kernel_rfl))).size = 11 := by kernel_rfl
theorem size96 : sizeB Try.prog 96 = some 11 := by kernel_rfl
theorem intK96 : intKindB Try.prog 96 = none := by kernel_rfl
theorem elem96 : elemB Try.prog 96 = none := by kernel_rfl
theorem zero96 : zeroC Try.prog 96 = some [.int .u64 0, .int .u64 0, .int .u32 0, .int .u8 0, .int .u8 0, .int .u8 0, .int .u8 0, .nilFunc, .pointer none, .int .i32 0, .int .i32 0] := by kernel_rfl
theorem field96_0 : fieldB Try.prog 96 0 = some (0, 12) := by kernel_rfl
theorem field96_1 : fieldB Try.prog 96 1 = some (1, 12) := by kernel_rfl
theorem field96_2 : fieldB Try.prog 96 2 = some (2, 89) := by kernel_rfl
theorem field96_3 : fieldB Try.prog 96 3 = some (3, 90) := by kernel_rfl
theorem field96_4 : fieldB Try.prog 96 4 = some (4, 5) := by kernel_rfl
theorem field96_5 : fieldB Try.prog 96 5 = some (5, 5) := by kernel_rfl
theorem field96_6 : fieldB Try.prog 96 6 = some (6, 91) := by kernel_rfl
theorem field96_7 : fieldB Try.prog 96 7 = some (7, 92) := by kernel_rfl
theorem field96_8 : fieldB Try.prog 96 8 = some (8, 93) := by kernel_rfl
theorem field96_9 : fieldB Try.prog 96 9 = some (9, 94) := by kernel_rfl
theorem field96_10 : fieldB Try.prog 96 10 = some (10, 95) := by kernel_rfl
theorem isAgg97 : isAggB Try.prog 97 = some true := by kernel_rfl
theorem tsz97 : (Try.prog.types[97]'(of_decide_eq_true (by kernel_rfl))).size = 11 := by kernel_rfl
theorem size97 : sizeB Try.prog 97 = some 11 := by kernel_rfl
theorem intK97 : intKindB Try.prog 97 = none := by kernel_rfl
theorem elem97 : elemB Try.prog 97 = none := by kernel_rfl
theorem zero97 : zeroC Try.prog 97 = some [.int .u64 0, .int .u64 0, .int .u32 0, .int .u8 0, .int .u8 0, .int .u8 0, .int .u8 0, .nilFunc, .pointer none, .int .i32 0, .int .i32 0] := by kernel_rfl
theorem field97_0 : fieldB Try.prog 97 0 = some (0, 12) := by kernel_rfl
theorem field97_1 : fieldB Try.prog 97 1 = some (1, 12) := by kernel_rfl
theorem field97_2 : fieldB Try.prog 97 2 = some (2, 89) := by kernel_rfl
theorem field97_3 : fieldB Try.prog 97 3 = some (3, 90) := by kernel_rfl
theorem field97_4 : fieldB Try.prog 97 4 = some (4, 5) := by kernel_rfl
theorem field97_5 : fieldB Try.prog 97 5 = some (5, 5) := by kernel_rfl
theorem field97_6 : fieldB Try.prog 97 6 = some (6, 91) := by kernel_rfl
theorem field97_7 : fieldB Try.prog 97 7 = some (7, 92) := by kernel_rfl
theorem field97_8 : fieldB Try.prog 97 8 = some (8, 93) := by kernel_rfl
theorem field97_9 : fieldB Try.prog 97 9 = some (9, 94) := by kernel_rfl
theorem field97_10 : fieldB Try.prog 97 10 = some (10, 95) := by kernel_rfl
theorem fnOk3 : FnOk Try.prog 3 := ⟨_, _, Try.func3, rfl, rfl⟩
theorem fnOk4 : FnOk Try.prog 4 := ⟨_, _, Try.func4, rfl, rfl⟩
theorem fnOk5 : FnOk Try.prog 5 := ⟨_, _, Try.func5, rfl, rfl⟩
theorem fnOk6 : FnOk Try.prog 6 := ⟨_, _, Try.func6, rfl, rfl⟩
theorem fnOk7 : FnOk Try.prog 7 := ⟨_, _, Try.func7, rfl, rfl⟩
theorem fnOk8 : FnOk Try.prog 8 := ⟨_, _, Try.func8, rfl, rfl⟩
theorem fnOk9 : FnOk Try.prog 9 := ⟨_, _, Try.func9, rfl, rfl⟩
theorem fnOk10 : FnOk Try.prog 10 := ⟨_, _, Try.func10, rfl, rfl⟩
theorem fnOk11 : FnOk Try.prog 11 := ⟨_, _, Try.func11, rfl, rfl⟩
theorem fnOk12 : FnOk Try.prog 12 := ⟨_, _, Try.func12, rfl, rfl⟩
theorem fnOk13 : FnOk Try.prog 13 := ⟨_, _, Try.func13, rfl, rfl⟩
theorem fnOk14 : FnOk Try.prog 14 := ⟨_, _, Try.func14, rfl, rfl⟩
theorem fnOk15 : FnOk Try.prog 15 := ⟨_, _, Try.func15, rfl, rfl⟩
theorem fnOk16 : FnOk Try.prog 16 := ⟨_, _, Try.func16, rfl, rfl⟩
theorem fnOk17 : FnOk Try.prog 17 := ⟨_, _, Try.func17, rfl, rfl⟩
theorem fnOk18 : FnOk Try.prog 18 := ⟨_, _, Try.func18, rfl, rfl⟩
theorem fnOk19 : FnOk Try.prog 19 := ⟨_, _, Try.func19, rfl, rfl⟩
theorem fnOk20 : FnOk Try.prog 20 := ⟨_, _, Try.func20, rfl, rfl⟩
theorem fnOk21 : FnOk Try.prog 21 := ⟨_, _, Try.func21, rfl, rfl⟩
theorem fnOk22 : FnOk Try.prog 22 := ⟨_, _, Try.func22, rfl, rfl⟩
theorem fnOk23 : FnOk Try.prog 23 := ⟨_, _, Try.func23, rfl, rfl⟩
theorem fnOk24 : FnOk Try.prog 24 := ⟨_, _, Try.func24, rfl, rfl⟩
theorem fnOk25 : FnOk Try.prog 25 := ⟨_, _, Try.func25, rfl, rfl⟩
theorem fnOk26 : FnOk Try.prog 26 := ⟨_, _, Try.func26, rfl, rfl⟩
theorem fnOk27 : FnOk Try.prog 27 := ⟨_, _, Try.func27, rfl, rfl⟩
theorem fnOk28 : FnOk Try.prog 28 := ⟨_, _, Try.func28, rfl, rfl⟩
theorem fnOk29 : FnOk Try.prog 29 := ⟨_, _, Try.func29, rfl, rfl⟩
theorem fnOk30 : FnOk Try.prog 30 := ⟨_, _, Try.func30, rfl, rfl⟩
theorem fnOk31 : FnOk Try.prog 31 := ⟨_, _, Try.func31, rfl, rfl⟩
theorem fnOk32 : FnOk Try.prog 32 := ⟨_, _, Try.func32, rfl, rfl⟩
theorem fnOk33 : FnOk Try.prog 33 := ⟨_, _, Try.func33, rfl, rfl⟩
theorem fnOk34 : FnOk Try.prog 34 := ⟨_, _, Try.func34, rfl, rfl⟩
theorem fnOk35 : FnOk Try.prog 35 := ⟨_, _, Try.func35, rfl, rfl⟩
theorem fnOk36 : FnOk Try.prog 36 := ⟨_, _, Try.func36, rfl, rfl⟩
theorem fnOk37 : FnOk Try.prog 37 := ⟨_, _, Try.func37, rfl, rfl⟩
theorem fnOk38 : FnOk Try.prog 38 := ⟨_, _, Try.func38, rfl, rfl⟩
theorem fnOk39 : FnOk Try.prog 39 := ⟨_, _, Try.func39, rfl, rfl⟩
theorem fnOk40 : FnOk Try.prog 40 := ⟨_, _, Try.func40, rfl, rfl⟩
theorem fnOk41 : FnOk Try.prog 41 := ⟨_, _, Try.func41, rfl, rfl⟩
theorem fnOk42 : FnOk Try.prog 42 := ⟨_, _, Try.func42, rfl, rfl⟩
theorem fnOk43 : FnOk Try.prog 43 := ⟨_, _, Try.func43, rfl, rfl⟩
theorem fnOk44 : FnOk Try.prog 44 := ⟨_, _, Try.func44, rfl, rfl⟩
theorem fnOk45 : FnOk Try.prog 45 := ⟨_, _, Try.func45, rfl, rfl⟩
theorem fnOk46 : FnOk Try.prog 46 := ⟨_, _, Try.func46, rfl, rfl⟩
theorem fnOk47 : FnOk Try.prog 47 := ⟨_, _, Try.func47, rfl, rfl⟩
theorem fnOk48 : FnOk Try.prog 48 := ⟨_, _, Try.func48, rfl, rfl⟩
theorem fnOk49 : FnOk Try.prog 49 := ⟨_, _, Try.func49, rfl, rfl⟩
theorem fnOk50 : FnOk Try.prog 50 := ⟨_, _, Try.func50, rfl, rfl⟩
theorem fnOk51 : FnOk Try.prog 51 := ⟨_, _, Try.func51, rfl, rfl⟩
theorem fnOk52 : FnOk Try.prog 52 := ⟨_, _, Try.func52, rfl, rfl⟩
end Go.Proofs.Ytilfmeknjmdnoaa
