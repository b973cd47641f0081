/- The library's contracts of strings.Builder (WriteRune, String) and of utf8.RuneCountInString at this program: what a builder that the call made holds, and how many signs a string has. -/
import Derived.Shelf.Strings.BuilderK
import Derived.Shelf.Strings.BuilderRune
import Derived.Shelf.Utf8.RuneCount
import Derived.Test.YtohgaknojkdohaaGreatDoorProg
namespace Go.Proofs.YtohgaknojkdohaaGreatDoor.Fo
open Go.Shelf
def ren168 : Go.Shelf.Ren := ⟨fun | 168 => 149 | 240 => 161 | 242 => 162 | 276 => 168 | 278 => 169 | n => n, fun | 0 => 0 | 1 => 1 | 2 => 2 | 3 => 3 | 4 => 4 | 5 => 5 | 6 => 6 | 7 => 7 | 8 => 8 | 9 => 9 | 10 => 10 | 11 => 11 | 12 => 12 | 13 => 13 | 14 => 14 | 15 => 15 | 16 => 16 | 17 => 17 | 18 => 18 | 19 => 19 | 20 => 20 | 21 => 21 | 22 => 68 | 28 => 35 | 31 => 49 | 35 => 159 | 37 => 28 | 41 => 149 | 43 => 36 | 46 => 124 | 47 => 199 | 48 => 162 | 51 => 203 | 52 => 213 | 53 => 166 | 54 => 214 | 69 => 65 | 70 => 181 | 71 => 182 | 72 => 183 | 73 => 106 | 74 => 184 | 75 => 185 | 76 => 186 | 79 => 187 | 80 => 127 | 81 => 86 | 83 => 100 | 104 => 119 | 111 => 80 | 112 => 69 | 114 => 137 | 126 => 191 | 127 => 196 | 131 => 211 | 134 => 198 | 164 => 201 | 165 => 202 | 166 => 165 | 179 => 81 | 181 => 205 | 182 => 206 | 183 => 207 | 184 => 208 | 185 => 209 | 186 => 210 | 187 => 212 | 218 => 217 | 219 => 218 | 220 => 219 | 221 => 220 | 222 => 221 | 223 => 222 | 228 => 223 | 229 => 133 | 230 => 224 | 238 => 225 | 239 => 226 | 240 => 227 | 241 => 228 | 242 => 229 | 243 => 230 | 244 => 231 | 245 => 232 | 246 => 233 | 247 => 234 | 248 => 235 | 249 => 236 | n => n, fun | n => n⟩
theorem lays168 : Go.Proofs.Lays.n168 Tryz.prog ren168 := {
  mixed := by kernel_rfl
  f168 := Tryz.func149.trans (congrArg some (by kernel_rfl))
  f240 := Tryz.func161.trans (congrArg some (by kernel_rfl))
  f242 := Tryz.func162.trans (congrArg some (by kernel_rfl))
  f276 := Tryz.func168.trans (congrArg some (by kernel_rfl))
  f278 := Tryz.func169.trans (congrArg some (by kernel_rfl))
  t0 := Tryz.underlying0
  a0 := Tryz.isAgg0
  z0 := Tryz.sizeOf0
  v0 := Tryz.zeroValue0
  t3 := Tryz.underlying3
  a3 := Tryz.isAgg3
  z3 := Tryz.sizeOf3
  v3 := Tryz.zeroValue3
  t4 := Tryz.underlying4
  a4 := Tryz.isAgg4
  z4 := Tryz.sizeOf4
  v4 := Tryz.zeroValue4
  t5 := Tryz.underlying5
  a5 := Tryz.isAgg5
  z5 := Tryz.sizeOf5
  v5 := Tryz.zeroValue5
  t9 := Tryz.underlying9
  a9 := Tryz.isAgg9
  z9 := Tryz.sizeOf9
  v9 := Tryz.zeroValue9
  t20 := Tryz.underlying20
  a20 := Tryz.isAgg20
  z20 := Tryz.sizeOf20
  v20 := Tryz.zeroValue20
  t21 := Tryz.underlying21
  a21 := Tryz.isAgg21
  z21 := Tryz.sizeOf21
  v21 := Tryz.zeroValue21
  t37 := Tryz.underlying28
  a37 := Tryz.isAgg28
  z37 := Tryz.sizeOf28
  v37 := Tryz.zeroValue28
  t46 := Tryz.underlying124
  a46 := Tryz.isAgg124
  z46 := Tryz.sizeOf124
  v46 := Tryz.zeroValue124
  t51 := Tryz.underlying203
  a51 := Tryz.isAgg203
  z51 := Tryz.sizeOf203
  v51 := Tryz.zeroValue203
  t70 := Tryz.underlying181
  a70 := Tryz.isAgg181
  z70 := Tryz.sizeOf181
  v70 := Tryz.zeroValue181
  t72 := Tryz.underlying183
  a72 := Tryz.isAgg183
  z72 := Tryz.sizeOf183
  v72 := Tryz.zeroValue183
  t75 := Tryz.underlying185
  a75 := Tryz.isAgg185
  z75 := Tryz.sizeOf185
  v75 := Tryz.zeroValue185
  t164 := Tryz.underlying201
  a164 := Tryz.isAgg201
  z164 := Tryz.sizeOf201
  v164 := Tryz.zeroValue201 }
theorem extra168 : Builder.Extra Tryz.prog ren168 := {
  sizeBuilder := by kernel_rfl
  liesBuilder := by kernel_rfl
  t5 := Tryz.underlying5
  a5 := Tryz.isAgg5
  z5 := Tryz.sizeOf5
  v5 := Tryz.zeroValue5
  infoByte := by kernel_rfl
  cellsByte := by kernel_rfl
  sizeByte := by kernel_rfl
  neB5 := by decide }
def ren169 : Go.Shelf.Ren := ⟨fun | 169 => 151 | n => n, fun | 0 => 0 | 1 => 1 | 2 => 2 | 3 => 3 | 4 => 4 | 5 => 5 | 6 => 6 | 7 => 7 | 8 => 8 | 9 => 9 | 10 => 10 | 11 => 11 | 12 => 12 | 13 => 13 | 14 => 14 | 15 => 15 | 16 => 16 | 17 => 17 | 18 => 18 | 19 => 19 | 20 => 20 | 21 => 21 | 22 => 68 | 28 => 35 | 31 => 49 | 35 => 159 | 37 => 28 | 41 => 149 | 43 => 36 | 46 => 124 | 47 => 199 | 48 => 162 | 51 => 203 | 52 => 213 | 53 => 166 | 54 => 214 | 69 => 65 | 70 => 181 | 71 => 182 | 72 => 183 | 73 => 106 | 74 => 184 | 75 => 185 | 76 => 186 | 79 => 187 | 80 => 127 | 81 => 86 | 83 => 100 | 104 => 119 | 111 => 80 | 112 => 69 | 114 => 137 | 126 => 191 | 127 => 196 | 131 => 211 | 134 => 198 | 164 => 201 | 165 => 202 | 166 => 165 | 179 => 81 | 181 => 205 | 182 => 206 | 183 => 207 | 184 => 208 | 185 => 209 | 186 => 210 | 187 => 212 | 218 => 217 | 219 => 218 | 220 => 219 | 221 => 220 | 222 => 221 | 223 => 222 | 228 => 223 | 229 => 133 | 230 => 224 | 238 => 225 | 239 => 226 | 240 => 227 | 241 => 228 | 242 => 229 | 243 => 230 | 244 => 231 | 245 => 232 | 246 => 233 | 247 => 234 | 248 => 235 | 249 => 236 | n => n, fun | n => n⟩
theorem lays169 : Go.Proofs.Lays.n169 Tryz.prog ren169 := {
  mixed := by kernel_rfl
  f169 := Tryz.func151.trans (congrArg some (by kernel_rfl))
  t0 := Tryz.underlying0
  a0 := Tryz.isAgg0
  z0 := Tryz.sizeOf0
  v0 := Tryz.zeroValue0
  t3 := Tryz.underlying3
  a3 := Tryz.isAgg3
  z3 := Tryz.sizeOf3
  v3 := Tryz.zeroValue3
  t9 := Tryz.underlying9
  a9 := Tryz.isAgg9
  z9 := Tryz.sizeOf9
  v9 := Tryz.zeroValue9
  t37 := Tryz.underlying28
  a37 := Tryz.isAgg28
  z37 := Tryz.sizeOf28
  v37 := Tryz.zeroValue28
  t70 := Tryz.underlying181
  a70 := Tryz.isAgg181
  z70 := Tryz.sizeOf181
  v70 := Tryz.zeroValue181
  t72 := Tryz.underlying183
  a72 := Tryz.isAgg183
  z72 := Tryz.sizeOf183
  v72 := Tryz.zeroValue183
  t127 := Tryz.underlying196
  a127 := Tryz.isAgg196
  z127 := Tryz.sizeOf196
  v127 := Tryz.zeroValue196 }
theorem extra169 : Builder.Extra Tryz.prog ren169 := {
  sizeBuilder := by kernel_rfl
  liesBuilder := by kernel_rfl
  t5 := Tryz.underlying5
  a5 := Tryz.isAgg5
  z5 := Tryz.sizeOf5
  v5 := Tryz.zeroValue5
  infoByte := by kernel_rfl
  cellsByte := by kernel_rfl
  sizeByte := by kernel_rfl
  neB5 := by decide }
open Go.RowKit in
theorem writeRune_any (B b : Nat) (bs : List Value) (r : Int) (hr0 : -2147483648 ≤ r) (hr1 : r ≤ 2147483647) (w : World) (h : Lib.IsBuilderF 183 5 B b bs w) (hlen : bs.length + 4 ≤ 140737488355328) (hBw : B ≤ w.heap.size) :
    Calls Tryz.prog 149 #[.pointer (some ⟨b, 0, none⟩), .int .i32 r] w fun e w' => e = .returned (.tuple #[.int .i64 (Lib.runeCells r).length, .nilIface]) ∧ (Lib.BuilderAtF 183 5 B b (.pointer (some ⟨b, 0, none⟩)) (bs ++ Lib.runeCells r) w' ∧ Below B w w' ∧ Lib.OthersKept 5 (some b) w w') :=
  Any.Builder_WriteRune_k lays168 extra168 B b bs r hr0 hr1 w h hlen hBw
open Go.RowKit in
theorem builderString_any (B b : Nat) (l : List UInt8) (w : World) (h : Lib.IsBuilderF 183 5 B b (Lib.byteCells l) w) (hBw : B ≤ w.heap.size) :
    Calls Tryz.prog 151 #[.pointer (some ⟨b, 0, none⟩)] w fun e w' => e = .returned (.string ⟨l.toArray⟩) ∧ (Lib.IsBuilderF 183 5 B b (Lib.byteCells l) w' ∧ Below B w w' ∧ Lib.OthersKept 5 (some b) w w') :=
  Any.Builder_String_any_k lays169 extra169 B b l w h hBw
end Go.Proofs.YtohgaknojkdohaaGreatDoor.Fo
