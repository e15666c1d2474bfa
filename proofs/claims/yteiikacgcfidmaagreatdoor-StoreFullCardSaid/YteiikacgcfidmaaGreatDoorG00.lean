/-
  The library's texts in this program are those that the library's contracts were proved of.
  Tags as lists of plain numbers: which texts are tags, their parts, their bytes, parents and chains. No program is spoken of.
  Tags as ten plain numbers: of which parts they are, their texts, parents and chains. No program is spoken of.
-/
import Derived.Shelf.Strings.Builder1
import Derived.Shelf.Strings.Builder2
import Derived.Shelf.Strings.OnBuilder
import Derived.Shelf.Small.Utf8
import Derived.Shelf.Small.Bits
import Derived.Shelf.Utf8.RuneCount
import Derived.Shelf.Strconv.Atoi
import Derived.Shelf.Strconv.Itoa0
import Derived.Shelf.Strconv.Itoa1
import Derived.Shelf.LaysM
import Derived.Shelf.Strconv.Itoa2
import Derived.Shelf.Strconv.Itoa3
import Derived.Shelf.Strconv.AtoiErrFast
import Derived.Shelf.Strconv.ParseIntEmpty
import Derived.Shelf.Strconv.AtoiFail
import Derived.Shelf.Strconv.Clone
import Derived.Shelf.Strconv.SyntaxError
import Derived.Shelf.LaysC
import Derived.Shelf.Strconv.ToError
import Derived.Shelf.Strconv.Lower
import Derived.Shelf.Strconv.ParseUint10
import Derived.Shelf.Strconv.ParseUint10Empty
import Derived.Shelf.Strconv.ParseUint10Any
import Derived.Shelf.Strconv.ParseInt10
import Derived.Shelf.Strconv.AtoiLong
import Derived.Shelf.Strconv.AtoiInnerAll
import Derived.Shelf.Strconv.RangeError
import Derived.Shelf.Strconv.ToErrorRange
import Derived.Shelf.Strconv.AtoiAll
import Derived.Shelf.Strings.Search1
import Derived.Shelf.Strings.Search2
import Derived.Shelf.Strings.Search3
import Derived.Shelf.Strings.Count
import Derived.Shelf.Strings.Shaped
import Derived.Shelf.Strings.Split
import Derived.Shelf.Strings.SplitShaped
import Derived.Shelf.Unicode.Latin
import Derived.Shelf.Unicode.Decode
import Derived.Shelf.Strings.RuneCount
import Derived.Shelf.Strings.Explode
import Derived.Shelf.Unicode.DecodeSlow
import Derived.Shelf.Unicode.DecodeAny
import Derived.Shelf.Unicode.CaseLookup
import Derived.Shelf.Unicode.CaseConvert
import Derived.Shelf.Unicode.CaseTo
import Derived.Shelf.Unicode.CaseLaid
import Derived.Shelf.Bytes.SlIndexSmall
import Derived.Shelf.Bytes.SlIndexAt
import Derived.Shelf.Bytes.SlSearch0
import Derived.Shelf.Bytes.SlSearch1
import Derived.Shelf.Bytes.SlSearch2
import Derived.Shelf.Bytes.SlIndexWhole
import Derived.Shelf.Bytes.SlCut
import Derived.Shelf.Bytes.Small
import Derived.Shelf.Bytes.IndexByte
import Derived.Test.YteiikacgcfidmaaGreatDoorProg
namespace Go.Proofs.YteiikacgcfidmaaGreatDoor
open Go.Shelf Go.RowKit
def lays158_ren : Go.Shelf.Ren := ⟨fun | 158 => 108 | 165 => 116 | 166 => 117 | 167 => 155 | 169 => 118 | 230 => 156 | 203 => 158 | 240 => 162 | 241 => 163 | 197 => 145 | 118 => 181 | 168 => 182 | 270 => 183 | 262 => 184 | 276 => 190 | 277 => 191 | 260 => 173 | 242 => 199 | 313 => 200 | 278 => 221 | 274 => 222 | 275 => 223 | n => n, fun | 9 => 9 | 4 => 4 | 3 => 3 | 5 => 5 | 72 => 212 | 0 => 0 | 76 => 201 | 75 => 200 | 107 => 248 | 70 => 210 | 20 => 20 | 37 => 71 | 127 => 230 | 21 => 21 | 105 => 241 | 164 => 275 | 162 => 293 | 203 => 291 | 119 => 281 | 46 => 240 | 139 => 284 | 138 => 283 | 51 => 51 | 160 => 311 | 208 => 323 | 206 => 321 | 80 => 109 | n => n, fun | 13 => 5 | 3 => 1 | 4 => 2 | n => n⟩
theorem lays158 : Go.Proofs.Lays.n158 Tryz.prog lays158_ren := {
  mixed := by kernel_rfl
  f118 := Tryz.func181.trans (congrArg some (by kernel_rfl))
  f158 := Tryz.func108.trans (congrArg some (by kernel_rfl))
  f165 := Tryz.func116.trans (congrArg some (by kernel_rfl))
  f166 := Tryz.func117.trans (congrArg some (by kernel_rfl))
  f167 := Tryz.func155.trans (congrArg some (by kernel_rfl))
  f168 := Tryz.func182.trans (congrArg some (by kernel_rfl))
  f169 := Tryz.func118.trans (congrArg some (by kernel_rfl))
  f197 := Tryz.func145.trans (congrArg some (by kernel_rfl))
  f203 := Tryz.func158.trans (congrArg some (by kernel_rfl))
  f230 := Tryz.func156.trans (congrArg some (by kernel_rfl))
  f240 := Tryz.func162.trans (congrArg some (by kernel_rfl))
  f241 := Tryz.func163.trans (congrArg some (by kernel_rfl))
  f242 := Tryz.func199.trans (congrArg some (by kernel_rfl))
  f260 := Tryz.func173.trans (congrArg some (by kernel_rfl))
  f262 := Tryz.func184.trans (congrArg some (by kernel_rfl))
  f270 := Tryz.func183.trans (congrArg some (by kernel_rfl))
  f274 := Tryz.func222.trans (congrArg some (by kernel_rfl))
  f275 := Tryz.func223.trans (congrArg some (by kernel_rfl))
  f276 := Tryz.func190.trans (congrArg some (by kernel_rfl))
  f277 := Tryz.func191.trans (congrArg some (by kernel_rfl))
  f278 := Tryz.func221.trans (congrArg some (by kernel_rfl))
  f313 := Tryz.func200.trans (congrArg some (by kernel_rfl))
  t0 := Tryz.underlying0
  a0 := Tryz.isAgg0
  z0 := Tryz.sizeOf0
  v0 := Tryz.zeroValue0
  t3 := Tryz.underlying3
  a3 := Tryz.isAgg3
  z3 := Tryz.sizeOf3
  v3 := Tryz.zeroValue3
  t4 := Tryz.underlying4
  a4 := Tryz.isAgg4
  z4 := Tryz.sizeOf4
  v4 := Tryz.zeroValue4
  t5 := Tryz.underlying5
  a5 := Tryz.isAgg5
  z5 := Tryz.sizeOf5
  v5 := Tryz.zeroValue5
  t9 := Tryz.underlying9
  a9 := Tryz.isAgg9
  z9 := Tryz.sizeOf9
  v9 := Tryz.zeroValue9
  t20 := Tryz.underlying20
  a20 := Tryz.isAgg20
  z20 := Tryz.sizeOf20
  v20 := Tryz.zeroValue20
  t21 := Tryz.underlying21
  a21 := Tryz.isAgg21
  z21 := Tryz.sizeOf21
  v21 := Tryz.zeroValue21
  t37 := Tryz.underlying71
  a37 := Tryz.isAgg71
  z37 := Tryz.sizeOf71
  v37 := Tryz.zeroValue71
  t46 := Tryz.underlying240
  a46 := Tryz.isAgg240
  z46 := Tryz.sizeOf240
  v46 := Tryz.zeroValue240
  t51 := Tryz.underlying51
  a51 := Tryz.isAgg51
  z51 := Tryz.sizeOf51
  v51 := Tryz.zeroValue51
  t70 := Tryz.underlying210
  a70 := Tryz.isAgg210
  z70 := Tryz.sizeOf210
  v70 := Tryz.zeroValue210
  t72 := Tryz.underlying212
  a72 := Tryz.isAgg212
  z72 := Tryz.sizeOf212
  v72 := Tryz.zeroValue212
  t75 := Tryz.underlying200
  a75 := Tryz.isAgg200
  z75 := Tryz.sizeOf200
  v75 := Tryz.zeroValue200
  t76 := Tryz.underlying201
  a76 := Tryz.isAgg201
  z76 := Tryz.sizeOf201
  v76 := Tryz.zeroValue201
  t105 := Tryz.underlying241
  a105 := Tryz.isAgg241
  z105 := Tryz.sizeOf241
  v105 := Tryz.zeroValue241
  t107 := Tryz.underlying248
  a107 := Tryz.isAgg248
  z107 := Tryz.sizeOf248
  v107 := Tryz.zeroValue248
  t119 := Tryz.underlying281
  a119 := Tryz.isAgg281
  z119 := Tryz.sizeOf281
  t127 := Tryz.underlying230
  a127 := Tryz.isAgg230
  z127 := Tryz.sizeOf230
  v127 := Tryz.zeroValue230
  t138 := Tryz.underlying283
  a138 := Tryz.isAgg283
  z138 := Tryz.sizeOf283
  v138 := Tryz.zeroValue283
  t139 := Tryz.underlying284
  a139 := Tryz.isAgg284
  z139 := Tryz.sizeOf284
  v139 := Tryz.zeroValue284
  t160 := Tryz.underlying311
  a160 := Tryz.isAgg311
  z160 := Tryz.sizeOf311
  v160 := Tryz.zeroValue311
  t162 := Tryz.underlying293
  a162 := Tryz.isAgg293
  z162 := Tryz.sizeOf293
  v162 := Tryz.zeroValue293
  t164 := Tryz.underlying275
  a164 := Tryz.isAgg275
  z164 := Tryz.sizeOf275
  v164 := Tryz.zeroValue275
  t203 := Tryz.underlying291
  a203 := Tryz.isAgg291
  z203 := Tryz.sizeOf291
  v203 := Tryz.zeroValue291
  t206 := Tryz.underlying321
  a206 := Tryz.isAgg321
  z206 := Tryz.sizeOf321
  v206 := Tryz.zeroValue321
  t208 := Tryz.underlying323
  a208 := Tryz.isAgg323
  z208 := Tryz.sizeOf323
  v208 := Tryz.zeroValue323
  g3 := by kernel_rfl
  g4 := by kernel_rfl
  g13 := by kernel_rfl }
theorem Builder_Extra_158 : Builder.Extra Tryz.prog lays158_ren := {
  sizeBuilder := by kernel_rfl
  liesBuilder := by kernel_rfl
  t5 := Tryz.underlying5
  a5 := Tryz.isAgg5
  z5 := Tryz.sizeOf5
  v5 := Tryz.zeroValue5
  infoByte := by kernel_rfl
  cellsByte := by kernel_rfl
  sizeByte := by kernel_rfl
  neB5 := by decide }
def lays159_ren : Go.Shelf.Ren := ⟨fun | 159 => 106 | 165 => 116 | 166 => 117 | 167 => 155 | 169 => 118 | 230 => 156 | 204 => 157 | 240 => 162 | 241 => 163 | 197 => 145 | 118 => 181 | 168 => 182 | 270 => 183 | 262 => 184 | 276 => 190 | 277 => 191 | 260 => 173 | 242 => 199 | 313 => 200 | 278 => 221 | 274 => 222 | 275 => 223 | n => n, fun | 9 => 9 | 4 => 4 | 3 => 3 | 5 => 5 | 72 => 212 | 0 => 0 | 76 => 201 | 75 => 200 | 107 => 248 | 70 => 210 | 20 => 20 | 37 => 71 | 127 => 230 | 21 => 21 | 105 => 241 | 164 => 275 | 162 => 293 | 203 => 291 | 119 => 281 | 46 => 240 | 139 => 284 | 138 => 283 | 51 => 51 | 160 => 311 | 208 => 323 | 206 => 321 | 80 => 109 | n => n, fun | 13 => 5 | 3 => 1 | 4 => 2 | n => n⟩
theorem lays159 : Go.Proofs.Lays.n159 Tryz.prog lays159_ren := {
  mixed := by kernel_rfl
  f118 := Tryz.func181.trans (congrArg some (by kernel_rfl))
  f159 := Tryz.func106.trans (congrArg some (by kernel_rfl))
  f165 := Tryz.func116.trans (congrArg some (by kernel_rfl))
  f166 := Tryz.func117.trans (congrArg some (by kernel_rfl))
  f167 := Tryz.func155.trans (congrArg some (by kernel_rfl))
  f168 := Tryz.func182.trans (congrArg some (by kernel_rfl))
  f169 := Tryz.func118.trans (congrArg some (by kernel_rfl))
  f197 := Tryz.func145.trans (congrArg some (by kernel_rfl))
  f204 := Tryz.func157.trans (congrArg some (by kernel_rfl))
  f230 := Tryz.func156.trans (congrArg some (by kernel_rfl))
  f240 := Tryz.func162.trans (congrArg some (by kernel_rfl))
  f241 := Tryz.func163.trans (congrArg some (by kernel_rfl))
  f242 := Tryz.func199.trans (congrArg some (by kernel_rfl))
  f260 := Tryz.func173.trans (congrArg some (by kernel_rfl))
  f262 := Tryz.func184.trans (congrArg some (by kernel_rfl))
  f270 := Tryz.func183.trans (congrArg some (by kernel_rfl))
  f274 := Tryz.func222.trans (congrArg some (by kernel_rfl))
  f275 := Tryz.func223.trans (congrArg some (by kernel_rfl))
  f276 := Tryz.func190.trans (congrArg some (by kernel_rfl))
  f277 := Tryz.func191.trans (congrArg some (by kernel_rfl))
  f278 := Tryz.func221.trans (congrArg some (by kernel_rfl))
  f313 := Tryz.func200.trans (congrArg some (by kernel_rfl))
  t0 := Tryz.underlying0
  a0 := Tryz.isAgg0
  z0 := Tryz.sizeOf0
  v0 := Tryz.zeroValue0
  t3 := Tryz.underlying3
  a3 := Tryz.isAgg3
  z3 := Tryz.sizeOf3
  v3 := Tryz.zeroValue3
  t4 := Tryz.underlying4
  a4 := Tryz.isAgg4
  z4 := Tryz.sizeOf4
  v4 := Tryz.zeroValue4
  t5 := Tryz.underlying5
  a5 := Tryz.isAgg5
  z5 := Tryz.sizeOf5
  v5 := Tryz.zeroValue5
  t9 := Tryz.underlying9
  a9 := Tryz.isAgg9
  z9 := Tryz.sizeOf9
  v9 := Tryz.zeroValue9
  t20 := Tryz.underlying20
  a20 := Tryz.isAgg20
  z20 := Tryz.sizeOf20
  v20 := Tryz.zeroValue20
  t21 := Tryz.underlying21
  a21 := Tryz.isAgg21
  z21 := Tryz.sizeOf21
  v21 := Tryz.zeroValue21
  t37 := Tryz.underlying71
  a37 := Tryz.isAgg71
  z37 := Tryz.sizeOf71
  v37 := Tryz.zeroValue71
  t46 := Tryz.underlying240
  a46 := Tryz.isAgg240
  z46 := Tryz.sizeOf240
  v46 := Tryz.zeroValue240
  t51 := Tryz.underlying51
  a51 := Tryz.isAgg51
  z51 := Tryz.sizeOf51
  v51 := Tryz.zeroValue51
  t70 := Tryz.underlying210
  a70 := Tryz.isAgg210
  z70 := Tryz.sizeOf210
  v70 := Tryz.zeroValue210
  t72 := Tryz.underlying212
  a72 := Tryz.isAgg212
  z72 := Tryz.sizeOf212
  v72 := Tryz.zeroValue212
  t75 := Tryz.underlying200
  a75 := Tryz.isAgg200
  z75 := Tryz.sizeOf200
  v75 := Tryz.zeroValue200
  t76 := Tryz.underlying201
  a76 := Tryz.isAgg201
  z76 := Tryz.sizeOf201
  v76 := Tryz.zeroValue201
  t105 := Tryz.underlying241
  a105 := Tryz.isAgg241
  z105 := Tryz.sizeOf241
  v105 := Tryz.zeroValue241
  t107 := Tryz.underlying248
  a107 := Tryz.isAgg248
  z107 := Tryz.sizeOf248
  v107 := Tryz.zeroValue248
  t119 := Tryz.underlying281
  a119 := Tryz.isAgg281
  z119 := Tryz.sizeOf281
  t127 := Tryz.underlying230
  a127 := Tryz.isAgg230
  z127 := Tryz.sizeOf230
  v127 := Tryz.zeroValue230
  t138 := Tryz.underlying283
  a138 := Tryz.isAgg283
  z138 := Tryz.sizeOf283
  v138 := Tryz.zeroValue283
  t139 := Tryz.underlying284
  a139 := Tryz.isAgg284
  z139 := Tryz.sizeOf284
  v139 := Tryz.zeroValue284
  t160 := Tryz.underlying311
  a160 := Tryz.isAgg311
  z160 := Tryz.sizeOf311
  v160 := Tryz.zeroValue311
  t162 := Tryz.underlying293
  a162 := Tryz.isAgg293
  z162 := Tryz.sizeOf293
  v162 := Tryz.zeroValue293
  t164 := Tryz.underlying275
  a164 := Tryz.isAgg275
  z164 := Tryz.sizeOf275
  v164 := Tryz.zeroValue275
  t203 := Tryz.underlying291
  a203 := Tryz.isAgg291
  z203 := Tryz.sizeOf291
  v203 := Tryz.zeroValue291
  t206 := Tryz.underlying321
  a206 := Tryz.isAgg321
  z206 := Tryz.sizeOf321
  v206 := Tryz.zeroValue321
  t208 := Tryz.underlying323
  a208 := Tryz.isAgg323
  z208 := Tryz.sizeOf323
  v208 := Tryz.zeroValue323
  g3 := by kernel_rfl
  g4 := by kernel_rfl
  g13 := by kernel_rfl }
theorem Builder_Extra_159 : Builder.Extra Tryz.prog lays159_ren := {
  sizeBuilder := by kernel_rfl
  liesBuilder := by kernel_rfl
  t5 := Tryz.underlying5
  a5 := Tryz.isAgg5
  z5 := Tryz.sizeOf5
  v5 := Tryz.zeroValue5
  infoByte := by kernel_rfl
  cellsByte := by kernel_rfl
  sizeByte := by kernel_rfl
  neB5 := by decide }
def lays156_ren : Go.Shelf.Ren := ⟨fun | 156 => 76 | 165 => 116 | 166 => 117 | 169 => 118 | 240 => 162 | 241 => 163 | 276 => 190 | 277 => 191 | n => n, fun | 31 => 106 | 9 => 9 | 3 => 3 | 4 => 4 | 0 => 0 | 20 => 20 | 72 => 212 | 76 => 201 | 70 => 210 | 37 => 71 | 75 => 200 | 127 => 230 | 164 => 275 | 5 => 5 | 80 => 109 | n => n, fun | n => n⟩
theorem lays156 : Go.Proofs.Lays.n156 Tryz.prog lays156_ren := {
  mixed := by kernel_rfl
  f156 := Tryz.func76.trans (congrArg some (by kernel_rfl))
  f165 := Tryz.func116.trans (congrArg some (by kernel_rfl))
  f166 := Tryz.func117.trans (congrArg some (by kernel_rfl))
  f169 := Tryz.func118.trans (congrArg some (by kernel_rfl))
  f240 := Tryz.func162.trans (congrArg some (by kernel_rfl))
  f241 := Tryz.func163.trans (congrArg some (by kernel_rfl))
  f276 := Tryz.func190.trans (congrArg some (by kernel_rfl))
  f277 := Tryz.func191.trans (congrArg some (by kernel_rfl))
  t0 := Tryz.underlying0
  a0 := Tryz.isAgg0
  z0 := Tryz.sizeOf0
  v0 := Tryz.zeroValue0
  t3 := Tryz.underlying3
  a3 := Tryz.isAgg3
  z3 := Tryz.sizeOf3
  v3 := Tryz.zeroValue3
  t4 := Tryz.underlying4
  a4 := Tryz.isAgg4
  z4 := Tryz.sizeOf4
  v4 := Tryz.zeroValue4
  t9 := Tryz.underlying9
  a9 := Tryz.isAgg9
  z9 := Tryz.sizeOf9
  v9 := Tryz.zeroValue9
  t20 := Tryz.underlying20
  a20 := Tryz.isAgg20
  z20 := Tryz.sizeOf20
  v20 := Tryz.zeroValue20
  t31 := Tryz.underlying106
  a31 := Tryz.isAgg106
  z31 := Tryz.sizeOf106
  v31 := Tryz.zeroValue106
  t37 := Tryz.underlying71
  a37 := Tryz.isAgg71
  z37 := Tryz.sizeOf71
  v37 := Tryz.zeroValue71
  t70 := Tryz.underlying210
  a70 := Tryz.isAgg210
  z70 := Tryz.sizeOf210
  v70 := Tryz.zeroValue210
  t72 := Tryz.underlying212
  a72 := Tryz.isAgg212
  z72 := Tryz.sizeOf212
  v72 := Tryz.zeroValue212
  t75 := Tryz.underlying200
  a75 := Tryz.isAgg200
  z75 := Tryz.sizeOf200
  v75 := Tryz.zeroValue200
  t76 := Tryz.underlying201
  a76 := Tryz.isAgg201
  z76 := Tryz.sizeOf201
  v76 := Tryz.zeroValue201
  t127 := Tryz.underlying230
  a127 := Tryz.isAgg230
  z127 := Tryz.sizeOf230
  v127 := Tryz.zeroValue230
  t164 := Tryz.underlying275
  a164 := Tryz.isAgg275
  z164 := Tryz.sizeOf275
  v164 := Tryz.zeroValue275 }
theorem Builder_Extra_156 : Builder.Extra Tryz.prog lays156_ren := {
  sizeBuilder := by kernel_rfl
  liesBuilder := by kernel_rfl
  t5 := Tryz.underlying5
  a5 := Tryz.isAgg5
  z5 := Tryz.sizeOf5
  v5 := Tryz.zeroValue5
  infoByte := by kernel_rfl
  cellsByte := by kernel_rfl
  sizeByte := by kernel_rfl
  neB5 := by decide }
def lays171_ren : Go.Shelf.Ren := ⟨fun | 171 => 73 | 243 => 113 | 246 => 160 | 283 => 185 | 284 => 186 | 285 => 187 | 286 => 188 | 129 => 202 | 317 => 201 | 318 => 203 | 319 => 204 | 320 => 205 | 337 => 224 | 338 => 225 | n => n, fun | 3 => 3 | 9 => 9 | 2 => 2 | 4 => 4 | 171 => 269 | 0 => 0 | 53 => 44 | 37 => 71 | 5 => 5 | 173 => 272 | 212 => 295 | 51 => 51 | 20 => 20 | 213 => 296 | 46 => 240 | 232 => 324 | 233 => 325 | n => n, fun | 17 => 6 | 18 => 7 | 19 => 8 | n => n⟩
theorem lays171 : Go.Proofs.Lays.n171 Tryz.prog lays171_ren := {
  mixed := by kernel_rfl
  f129 := Tryz.func202.trans (congrArg some (by kernel_rfl))
  f171 := Tryz.func73.trans (congrArg some (by kernel_rfl))
  f243 := Tryz.func113.trans (congrArg some (by kernel_rfl))
  f246 := Tryz.func160.trans (congrArg some (by kernel_rfl))
  f283 := Tryz.func185.trans (congrArg some (by kernel_rfl))
  f284 := Tryz.func186.trans (congrArg some (by kernel_rfl))
  f285 := Tryz.func187.trans (congrArg some (by kernel_rfl))
  f286 := Tryz.func188.trans (congrArg some (by kernel_rfl))
  f317 := Tryz.func201.trans (congrArg some (by kernel_rfl))
  f318 := Tryz.func203.trans (congrArg some (by kernel_rfl))
  f319 := Tryz.func204.trans (congrArg some (by kernel_rfl))
  f320 := Tryz.func205.trans (congrArg some (by kernel_rfl))
  f337 := Tryz.func224.trans (congrArg some (by kernel_rfl))
  f338 := Tryz.func225.trans (congrArg some (by kernel_rfl))
  t0 := Tryz.underlying0
  a0 := Tryz.isAgg0
  z0 := Tryz.sizeOf0
  v0 := Tryz.zeroValue0
  t2 := Tryz.underlying2
  a2 := Tryz.isAgg2
  z2 := Tryz.sizeOf2
  v2 := Tryz.zeroValue2
  t3 := Tryz.underlying3
  a3 := Tryz.isAgg3
  z3 := Tryz.sizeOf3
  v3 := Tryz.zeroValue3
  t4 := Tryz.underlying4
  a4 := Tryz.isAgg4
  z4 := Tryz.sizeOf4
  v4 := Tryz.zeroValue4
  t5 := Tryz.underlying5
  a5 := Tryz.isAgg5
  z5 := Tryz.sizeOf5
  v5 := Tryz.zeroValue5
  t9 := Tryz.underlying9
  a9 := Tryz.isAgg9
  z9 := Tryz.sizeOf9
  v9 := Tryz.zeroValue9
  t20 := Tryz.underlying20
  a20 := Tryz.isAgg20
  z20 := Tryz.sizeOf20
  v20 := Tryz.zeroValue20
  t37 := Tryz.underlying71
  a37 := Tryz.isAgg71
  z37 := Tryz.sizeOf71
  v37 := Tryz.zeroValue71
  t46 := Tryz.underlying240
  a46 := Tryz.isAgg240
  z46 := Tryz.sizeOf240
  v46 := Tryz.zeroValue240
  t51 := Tryz.underlying51
  a51 := Tryz.isAgg51
  z51 := Tryz.sizeOf51
  v51 := Tryz.zeroValue51
  t53 := Tryz.underlying44
  a53 := Tryz.isAgg44
  z53 := Tryz.sizeOf44
  v53 := Tryz.zeroValue44
  t171 := Tryz.underlying269
  a171 := Tryz.isAgg269
  z171 := Tryz.sizeOf269
  v171 := Tryz.zeroValue269
  t173 := Tryz.underlying272
  a173 := Tryz.isAgg272
  z173 := Tryz.sizeOf272
  v173 := Tryz.zeroValue272
  t212 := Tryz.underlying295
  a212 := Tryz.isAgg295
  z212 := Tryz.sizeOf295
  v212 := Tryz.zeroValue295
  t213 := Tryz.underlying296
  a213 := Tryz.isAgg296
  z213 := Tryz.sizeOf296
  t232 := Tryz.underlying324
  a232 := Tryz.isAgg324
  z232 := Tryz.sizeOf324
  v232 := Tryz.zeroValue324
  t233 := Tryz.underlying325
  a233 := Tryz.isAgg325
  z233 := Tryz.sizeOf325
  v233 := Tryz.zeroValue325
  g17 := by kernel_rfl
  g18 := by kernel_rfl
  g19 := by kernel_rfl }
def lays143_ren : Go.Shelf.Ren := ⟨fun | 143 => 66 | 219 => 101 | 217 => 147 | 225 => 148 | 224 => 149 | 267 => 150 | 266 => 174 | 314 => 175 | n => n, fun | 9 => 9 | 3 => 3 | 4 => 4 | 5 => 5 | 46 => 240 | 146 => 258 | 51 => 51 | n => n, fun | 1 => 0 | n => n⟩
theorem lays143 : Go.Proofs.Lays.n143 Tryz.prog lays143_ren := {
  mixed := by kernel_rfl
  f143 := Tryz.func66.trans (congrArg some (by kernel_rfl))
  f217 := Tryz.func147.trans (congrArg some (by kernel_rfl))
  f219 := Tryz.func101.trans (congrArg some (by kernel_rfl))
  f224 := Tryz.func149.trans (congrArg some (by kernel_rfl))
  f225 := Tryz.func148.trans (congrArg some (by kernel_rfl))
  f266 := Tryz.func174.trans (congrArg some (by kernel_rfl))
  f267 := Tryz.func150.trans (congrArg some (by kernel_rfl))
  f314 := Tryz.func175.trans (congrArg some (by kernel_rfl))
  t3 := Tryz.underlying3
  a3 := Tryz.isAgg3
  z3 := Tryz.sizeOf3
  v3 := Tryz.zeroValue3
  t4 := Tryz.underlying4
  a4 := Tryz.isAgg4
  z4 := Tryz.sizeOf4
  v4 := Tryz.zeroValue4
  t5 := Tryz.underlying5
  a5 := Tryz.isAgg5
  z5 := Tryz.sizeOf5
  v5 := Tryz.zeroValue5
  t9 := Tryz.underlying9
  a9 := Tryz.isAgg9
  z9 := Tryz.sizeOf9
  v9 := Tryz.zeroValue9
  t46 := Tryz.underlying240
  a46 := Tryz.isAgg240
  z46 := Tryz.sizeOf240
  v46 := Tryz.zeroValue240
  t51 := Tryz.underlying51
  a51 := Tryz.isAgg51
  z51 := Tryz.sizeOf51
  v51 := Tryz.zeroValue51
  t146 := Tryz.underlying258
  a146 := Tryz.isAgg258
  z146 := Tryz.sizeOf258
  v146 := Tryz.zeroValue258
  g1 := by kernel_rfl }
def lays147_ren : Go.Shelf.Ren := ⟨fun | 147 => 43 | 221 => 65 | 268 => 99 | 138 => 100 | 143 => 66 | 195 => 144 | 197 => 145 | 218 => 146 | 219 => 101 | 260 => 173 | 217 => 147 | 225 => 148 | 224 => 149 | 267 => 150 | 266 => 174 | 314 => 175 | n => n, fun | 9 => 9 | 3 => 3 | 31 => 106 | 4 => 4 | 0 => 0 | 105 => 241 | 21 => 21 | 5 => 5 | 46 => 240 | 119 => 281 | 139 => 284 | 138 => 283 | 146 => 258 | 51 => 51 | n => n, fun | 1 => 0 | 3 => 1 | 4 => 2 | n => n⟩
theorem lays147 : Go.Proofs.Lays.n147 Tryz.prog lays147_ren := {
  mixed := by kernel_rfl
  f138 := Tryz.func100.trans (congrArg some (by kernel_rfl))
  f143 := Tryz.func66.trans (congrArg some (by kernel_rfl))
  f147 := Tryz.func43.trans (congrArg some (by kernel_rfl))
  f195 := Tryz.func144.trans (congrArg some (by kernel_rfl))
  f197 := Tryz.func145.trans (congrArg some (by kernel_rfl))
  f217 := Tryz.func147.trans (congrArg some (by kernel_rfl))
  f218 := Tryz.func146.trans (congrArg some (by kernel_rfl))
  f219 := Tryz.func101.trans (congrArg some (by kernel_rfl))
  f221 := Tryz.func65.trans (congrArg some (by kernel_rfl))
  f224 := Tryz.func149.trans (congrArg some (by kernel_rfl))
  f225 := Tryz.func148.trans (congrArg some (by kernel_rfl))
  f260 := Tryz.func173.trans (congrArg some (by kernel_rfl))
  f266 := Tryz.func174.trans (congrArg some (by kernel_rfl))
  f267 := Tryz.func150.trans (congrArg some (by kernel_rfl))
  f268 := Tryz.func99.trans (congrArg some (by kernel_rfl))
  f314 := Tryz.func175.trans (congrArg some (by kernel_rfl))
  t0 := Tryz.underlying0
  a0 := Tryz.isAgg0
  z0 := Tryz.sizeOf0
  v0 := Tryz.zeroValue0
  t3 := Tryz.underlying3
  a3 := Tryz.isAgg3
  z3 := Tryz.sizeOf3
  v3 := Tryz.zeroValue3
  t4 := Tryz.underlying4
  a4 := Tryz.isAgg4
  z4 := Tryz.sizeOf4
  v4 := Tryz.zeroValue4
  t5 := Tryz.underlying5
  a5 := Tryz.isAgg5
  z5 := Tryz.sizeOf5
  v5 := Tryz.zeroValue5
  t9 := Tryz.underlying9
  a9 := Tryz.isAgg9
  z9 := Tryz.sizeOf9
  v9 := Tryz.zeroValue9
  t21 := Tryz.underlying21
  a21 := Tryz.isAgg21
  z21 := Tryz.sizeOf21
  v21 := Tryz.zeroValue21
  t31 := Tryz.underlying106
  a31 := Tryz.isAgg106
  z31 := Tryz.sizeOf106
  v31 := Tryz.zeroValue106
  t46 := Tryz.underlying240
  a46 := Tryz.isAgg240
  z46 := Tryz.sizeOf240
  v46 := Tryz.zeroValue240
  t51 := Tryz.underlying51
  a51 := Tryz.isAgg51
  z51 := Tryz.sizeOf51
  v51 := Tryz.zeroValue51
  t105 := Tryz.underlying241
  a105 := Tryz.isAgg241
  z105 := Tryz.sizeOf241
  v105 := Tryz.zeroValue241
  t119 := Tryz.underlying281
  a119 := Tryz.isAgg281
  z119 := Tryz.sizeOf281
  t138 := Tryz.underlying283
  a138 := Tryz.isAgg283
  z138 := Tryz.sizeOf283
  v138 := Tryz.zeroValue283
  t139 := Tryz.underlying284
  a139 := Tryz.isAgg284
  z139 := Tryz.sizeOf284
  v139 := Tryz.zeroValue284
  t146 := Tryz.underlying258
  a146 := Tryz.isAgg258
  z146 := Tryz.sizeOf258
  v146 := Tryz.zeroValue258
  g1 := by kernel_rfl
  g3 := by kernel_rfl
  g4 := by kernel_rfl }
def lays185_ren : Go.Shelf.Ren := ⟨fun | 185 => 189 | 187 => 206 | 115 => 207 | 253 => 208 | 224 => 149 | 254 => 209 | 255 => 226 | 291 => 227 | n => n, fun | 37 => 71 | 3 => 3 | 4 => 4 | 0 => 0 | 5 => 5 | 46 => 240 | 9 => 9 | 146 => 258 | 51 => 51 | n => n, fun | 1 => 0 | n => n⟩
theorem lays185 : Go.Proofs.Lays.n185 Tryz.prog lays185_ren := {
  mixed := by kernel_rfl
  f115 := Tryz.func207.trans (congrArg some (by kernel_rfl))
  f185 := Tryz.func189.trans (congrArg some (by kernel_rfl))
  f187 := Tryz.func206.trans (congrArg some (by kernel_rfl))
  f224 := Tryz.func149.trans (congrArg some (by kernel_rfl))
  f253 := Tryz.func208.trans (congrArg some (by kernel_rfl))
  f254 := Tryz.func209.trans (congrArg some (by kernel_rfl))
  f255 := Tryz.func226.trans (congrArg some (by kernel_rfl))
  f291 := Tryz.func227.trans (congrArg some (by kernel_rfl))
  t0 := Tryz.underlying0
  a0 := Tryz.isAgg0
  z0 := Tryz.sizeOf0
  v0 := Tryz.zeroValue0
  t3 := Tryz.underlying3
  a3 := Tryz.isAgg3
  z3 := Tryz.sizeOf3
  v3 := Tryz.zeroValue3
  t4 := Tryz.underlying4
  a4 := Tryz.isAgg4
  z4 := Tryz.sizeOf4
  v4 := Tryz.zeroValue4
  t5 := Tryz.underlying5
  a5 := Tryz.isAgg5
  z5 := Tryz.sizeOf5
  v5 := Tryz.zeroValue5
  t9 := Tryz.underlying9
  a9 := Tryz.isAgg9
  z9 := Tryz.sizeOf9
  v9 := Tryz.zeroValue9
  t37 := Tryz.underlying71
  a37 := Tryz.isAgg71
  z37 := Tryz.sizeOf71
  v37 := Tryz.zeroValue71
  t46 := Tryz.underlying240
  a46 := Tryz.isAgg240
  z46 := Tryz.sizeOf240
  v46 := Tryz.zeroValue240
  t51 := Tryz.underlying51
  a51 := Tryz.isAgg51
  z51 := Tryz.sizeOf51
  v51 := Tryz.zeroValue51
  t146 := Tryz.underlying258
  a146 := Tryz.isAgg258
  z146 := Tryz.sizeOf258
  v146 := Tryz.zeroValue258
  g1 := by kernel_rfl }
def laysSlT4_ren : Go.Shelf.Ren := ⟨fun | 4 => 161 | 5 => 189 | 6 => 206 | 7 => 207 | 8 => 208 | 9 => 149 | 10 => 209 | 11 => 226 | 12 => 227 | n => n, fun | 22 => 71 | 4 => 4 | 3 => 3 | 0 => 0 | 5 => 5 | 29 => 240 | 9 => 9 | 31 => 258 | 30 => 51 | n => n, fun | 0 => 0 | n => n⟩
theorem laysSlT4 : Go.Proofs.SlLaysT.n4 Tryz.prog laysSlT4_ren := {
  mixed := by kernel_rfl
  f4 := Tryz.func161.trans (congrArg some (by kernel_rfl))
  f5 := Tryz.func189.trans (congrArg some (by kernel_rfl))
  f6 := Tryz.func206.trans (congrArg some (by kernel_rfl))
  f7 := Tryz.func207.trans (congrArg some (by kernel_rfl))
  f8 := Tryz.func208.trans (congrArg some (by kernel_rfl))
  f9 := Tryz.func149.trans (congrArg some (by kernel_rfl))
  f10 := Tryz.func209.trans (congrArg some (by kernel_rfl))
  f11 := Tryz.func226.trans (congrArg some (by kernel_rfl))
  f12 := Tryz.func227.trans (congrArg some (by kernel_rfl))
  t0 := Tryz.underlying0
  a0 := Tryz.isAgg0
  z0 := Tryz.sizeOf0
  v0 := Tryz.zeroValue0
  t3 := Tryz.underlying3
  a3 := Tryz.isAgg3
  z3 := Tryz.sizeOf3
  v3 := Tryz.zeroValue3
  t4 := Tryz.underlying4
  a4 := Tryz.isAgg4
  z4 := Tryz.sizeOf4
  v4 := Tryz.zeroValue4
  t5 := Tryz.underlying5
  a5 := Tryz.isAgg5
  z5 := Tryz.sizeOf5
  v5 := Tryz.zeroValue5
  t9 := Tryz.underlying9
  a9 := Tryz.isAgg9
  z9 := Tryz.sizeOf9
  v9 := Tryz.zeroValue9
  t22 := Tryz.underlying71
  a22 := Tryz.isAgg71
  z22 := Tryz.sizeOf71
  v22 := Tryz.zeroValue71
  t29 := Tryz.underlying240
  a29 := Tryz.isAgg240
  z29 := Tryz.sizeOf240
  v29 := Tryz.zeroValue240
  t30 := Tryz.underlying51
  a30 := Tryz.isAgg51
  z30 := Tryz.sizeOf51
  v30 := Tryz.zeroValue51
  t31 := Tryz.underlying258
  a31 := Tryz.isAgg258
  z31 := Tryz.sizeOf258
  v31 := Tryz.zeroValue258
  g0 := by kernel_rfl }
end Go.Proofs.YteiikacgcfidmaaGreatDoor
set_option linter.unusedVariables false
set_option linter.unusedSimpArgs false
namespace Go.Proofs.YteiikacgcfidmaaGreatDoor
namespace D

/-- A text's bytes, and the text of bytes. -/
def ns (s : ByteArray) : List Nat := s.data.toList.map (·.toNat)
def sb (l : List Nat) : ByteArray := ⟨(l.map UInt8.ofNat).toArray⟩
theorem ns_len (s : ByteArray) : (ns s).length = s.size := by simp [ns]
theorem ns_lt (s : ByteArray) : ∀ b ∈ ns s, b < 256 := by
  intro b hb
  obtain ⟨u, _, rfl⟩ := List.mem_map.1 hb
  exact u.toNat_lt
theorem sb_ns (s : ByteArray) : sb (ns s) = s := by
  have e : (UInt8.ofNat ∘ fun x : UInt8 => x.toNat) = id := by funext x; simp
  have : (ns s).map UInt8.ofNat = s.data.toList := by rw [ns, List.map_map, e, List.map_id]
  rw [sb, this]
theorem ns_sb {l : List Nat} (h : ∀ b ∈ l, b < 256) : ns (sb l) = l := by
  simp only [ns, sb, List.map_map]
  have : ∀ b ∈ l, ((fun u : UInt8 => u.toNat) ∘ UInt8.ofNat) b = id b := fun b hb => by
    have := h b hb
    simp; omega
  rw [List.map_congr_left this, List.map_id]
theorem sb_len (l : List Nat) : (sb l).size = l.length := by simp [sb, ByteArray.size]
theorem ns_inj {s t : ByteArray} (h : ns s = ns t) : s = t := by rw [← sb_ns s, h, sb_ns]
/-- Letters, digits; small and great ones. -/
def letB (c : Nat) : Bool := decide ((97 ≤ c ∧ c ≤ 122) ∨ (65 ≤ c ∧ c ≤ 90))
def digB (c : Nat) : Bool := decide (48 ≤ c ∧ c ≤ 57)
def lowB (c : Nat) : Nat := if 65 ≤ c ∧ c ≤ 90 then c + 32 else c
def upB (c : Nat) : Nat := if 97 ≤ c ∧ c ≤ 122 then c - 32 else c
def low (l : List Nat) : List Nat := l.map lowB
def up (l : List Nat) : List Nat := l.map upB
def cap (l : List Nat) : List Nat := up (l.take 1) ++ low (l.drop 1)
def allL (t : List Nat) : Bool := t.all letB
def allD (t : List Nat) : Bool := t.all digB
def isL (t : List Nat) : Bool := (t.length == 2 || t.length == 3) && allL t
def isS (t : List Nat) : Bool := t.length == 4 && allL t
def isR (t : List Nat) : Bool := t.length == 2 && allL t || t.length == 3 && allD t
theorem low_len (l : List Nat) : (low l).length = l.length := by simp [low]
theorem up_len (l : List Nat) : (up l).length = l.length := by simp [up]
theorem cap_len (l : List Nat) : (cap l).length = l.length := by simp [cap, up, low]; omega
theorem letB_low (c : Nat) : letB (lowB c) = letB c := by
  unfold letB lowB
  rw [Bool.eq_iff_iff]
  split <;> simp only [decide_eq_true_eq] <;> omega
theorem letB_up (c : Nat) : letB (upB c) = letB c := by
  unfold letB upB
  rw [Bool.eq_iff_iff]
  split <;> simp only [decide_eq_true_eq] <;> omega
theorem digB_up (c : Nat) : digB (upB c) = digB c := by
  unfold digB upB
  rw [Bool.eq_iff_iff]
  split <;> simp only [decide_eq_true_eq] <;> omega
theorem lowB_low (c : Nat) : lowB (lowB c) = lowB c := by unfold lowB; split <;> (try split) <;> omega
theorem upB_up (c : Nat) : upB (upB c) = upB c := by unfold upB; split <;> (try split) <;> omega
theorem allL_low (l : List Nat) : allL (low l) = allL l := by simp [allL, low, List.all_map, Function.comp_def, letB_low]
theorem allL_up (l : List Nat) : allL (up l) = allL l := by simp [allL, up, List.all_map, Function.comp_def, letB_up]
theorem allD_up (l : List Nat) : allD (up l) = allD l := by simp [allD, up, List.all_map, Function.comp_def, digB_up]
theorem allL_app (l k : List Nat) : allL (l ++ k) = (allL l && allL k) := by simp [allL]
theorem low_low (l : List Nat) : low (low l) = low l := by simp [low, Function.comp_def, lowB_low]
theorem up_up (l : List Nat) : up (up l) = up l := by simp [up, Function.comp_def, upB_up]
theorem allL_cap (l : List Nat) : allL (cap l) = allL l := by
  rw [cap, allL_app, allL_up, allL_low, ← allL_app, List.take_append_drop]
theorem cap_cap (l : List Nat) : cap (cap l) = cap l := by
  cases l with
  | nil => rfl
  | cons c t =>
    show cap (up [c] ++ low t) = up [c] ++ low t
    show up [upB c] ++ low (low t) = up [c] ++ low t
    rw [low_low]
    simp [up, upB_up]
theorem isL_low (l : List Nat) : isL (low l) = isL l := by simp only [isL, low_len, allL_low]
theorem isS_cap (l : List Nat) : isS (cap l) = isS l := by simp only [isS, cap_len, allL_cap]
theorem isR_up (l : List Nat) : isR (up l) = isR l := by simp only [isR, up_len, allL_up, allD_up]
theorem isL_iff {l : List Nat} : isL l = true ↔ (l.length = 2 ∨ l.length = 3) ∧ allL l = true := by simp [isL]
theorem isS_iff {l : List Nat} : isS l = true ↔ l.length = 4 ∧ allL l = true := by simp [isS]
theorem isR_iff {l : List Nat} : isR l = true ↔ (l.length = 2 ∧ allL l = true) ∨ (l.length = 3 ∧ allD l = true) := by simp [isR]
/-- Which bytes letters and digits are. -/
def Ch (c : Nat) : Prop := 48 ≤ c ∧ c ≤ 122
theorem ch_L {l : List Nat} (h : allL l = true) : ∀ c ∈ l, Ch c := fun c hc => by
  have := List.all_eq_true.1 h c hc
  simp [letB] at this
  unfold Ch; omega
theorem ch_D {l : List Nat} (h : allD l = true) : ∀ c ∈ l, Ch c := fun c hc => by
  have := List.all_eq_true.1 h c hc
  simp [digB] at this
  unfold Ch; omega
theorem ch_R {l : List Nat} (h : isR l = true) : ∀ c ∈ l, Ch c := by
  rcases isR_iff.1 h with ⟨_, h⟩ | ⟨_, h⟩
  · exact ch_L h
  · exact ch_D h

/-- The parts of a tag. -/
structure Pt where
  l : List Nat
  s : List Nat
  r : List Nat
  deriving DecidableEq
def rt : Pt := ⟨[], [], []⟩
def rootT : List Nat := [114, 111, 111, 116]

/-- The pieces of a text between its - bytes. -/
def spl : List Nat → List (List Nat)
  | [] => [[]]
  | c :: t => if c = 45 then [] :: spl t else match spl t with
    | [] => [[c]]
    | p :: ps => (c :: p) :: ps
/-- The first piece, the rest, and whether there is more. -/
def cutP : List Nat → List Nat
  | [] => []
  | c :: t => if c = 45 then [] else c :: cutP t
def cutR : List Nat → List Nat
  | [] => []
  | c :: t => if c = 45 then t else cutR t
def cutM (t : List Nat) : Bool := t.contains 45
theorem spl_cut : ∀ t, spl t = cutP t :: (if cutM t then spl (cutR t) else [])
  | [] => rfl
  | c :: t => by
    rw [spl, cutP, cutR]
    by_cases h : c = 45
    · subst h
      simp [cutM]
    · rw [if_neg h, if_neg h, if_neg h, spl_cut t]
      have : cutM (c :: t) = cutM t := by
        simp only [cutM, List.contains_cons]
        rw [show ((45 : Nat) == c) = false by simp; omega, Bool.false_or]
      rw [this]
theorem cut_none : ∀ t, cutM t = false → cutP t = t ∧ cutR t = []
  | [], _ => ⟨rfl, rfl⟩
  | c :: t, h => by
    simp only [cutM, List.contains_cons, Bool.or_eq_false_iff] at h
    have hc : ¬ c = 45 := by have := h.1; simp at this; omega
    obtain ⟨h1, h2⟩ := cut_none t h.2
    rw [cutP, cutR, if_neg hc, if_neg hc, h1, h2]
    exact ⟨rfl, rfl⟩
theorem cut_at : ∀ {t : List Nat} {k : Nat}, t[k]? = some 45 → (∀ i, i < k → t[i]? ≠ some 45) → cutP t = t.take k ∧ cutR t = t.drop (k + 1) ∧ cutM t = true
  | [], k, h, _ => by simp at h
  | c :: t, 0, h, _ => by
    simp at h
    subst h
    simp [cutP, cutR, cutM]
  | c :: t, k + 1, h, hn => by
    have hc : ¬ c = 45 := fun e => hn 0 (by omega) (by simp [e])
    obtain ⟨h1, h2, h3⟩ := cut_at (t := t) (k := k) (by simpa using h) (fun i hi => by have := hn (i + 1) (by omega); simpa using this)
    rw [cutP, cutR, if_neg hc, if_neg hc, h1, h2]
    refine ⟨rfl, rfl, ?_⟩
    simp only [cutM, List.contains_cons] at h3 ⊢
    rw [h3, Bool.or_true]
theorem cutM_no {t : List Nat} (h : ∀ i, i < t.length → t[i]? ≠ some 45) : cutM t = false := by
  cases e : cutM t
  · rfl
  · simp only [cutM, List.contains_iff_mem] at e
    obtain ⟨i, hi, he⟩ := List.getElem_of_mem e
    exact absurd (by rw [List.getElem?_eq_getElem hi, he]) (h i hi)
theorem cutR_lt {t : List Nat} (h : cutM t = true) : (cutR t).length < t.length := by
  induction t with
  | nil => simp [cutM] at h
  | cons c t ih =>
    rw [cutR]
    split
    · simp
    · rename_i hc
      simp only [cutM, List.contains_cons] at h
      rw [show ((45 : Nat) == c) = false by simp; omega, Bool.false_or] at h
      have := ih h
      simp; omega
theorem cutP_len (t : List Nat) : (cutP t).length ≤ t.length := by
  induction t with
  | nil => simp [cutP]
  | cons a t ih => rw [cutP]; split <;> simp; exact ih

/-- One more piece. -/
def step (t : Pt) (p : List Nat) : Option Pt := if isS p && t.s == [] && t.r == [] then some ⟨t.l, cap p, t.r⟩ else if isR p && t.r == [] then some ⟨t.l, t.s, up p⟩ else none
def foldP (t : Pt) : List (List Nat) → Option Pt
  | [] => some t
  | p :: ps => match step t p with
    | none => none
    | some u => foldP u ps
/-- The parts of a text. -/
def parse (s : List Nat) : Option Pt := if s = rootT then some rt else if isL (cutP s) then (if cutM s then foldP ⟨low (cutP s), [], []⟩ (spl (cutR s)) else some ⟨low (cutP s), [], []⟩) else none

/-- Right parts. -/
def okL (l : List Nat) : Prop := isL l = true ∧ low l = l
def okS (l : List Nat) : Prop := isS l = true ∧ cap l = l
def okR (l : List Nat) : Prop := isR l = true ∧ up l = l
def Can (p : Pt) : Prop := p = rt ∨ okL p.l ∧ (p.s = [] ∨ okS p.s) ∧ (p.r = [] ∨ okR p.r)
def Can1 (p : Pt) : Prop := okL p.l ∧ (p.s = [] ∨ okS p.s) ∧ (p.r = [] ∨ okR p.r)
theorem ok_low {l : List Nat} (h : isL l = true) : okL (low l) := ⟨by rw [isL_low]; exact h, low_low l⟩
theorem ok_cap {l : List Nat} (h : isS l = true) : okS (cap l) := ⟨by rw [isS_cap]; exact h, cap_cap l⟩
theorem ok_up {l : List Nat} (h : isR l = true) : okR (up l) := ⟨by rw [isR_up]; exact h, up_up l⟩
theorem step_can {t u : Pt} {p : List Nat} (h : Can1 t) (e : step t p = some u) : Can1 u := by
  unfold step at e
  split at e
  · rename_i hc
    simp only [Bool.and_eq_true, beq_iff_eq] at hc
    injection e with e
    subst e
    exact ⟨h.1, .inr (ok_cap hc.1.1), h.2.2⟩
  · split at e
    · rename_i hc
      simp only [Bool.and_eq_true, beq_iff_eq] at hc
      injection e with e
      subst e
      exact ⟨h.1, h.2.1, .inr (ok_up hc.1)⟩
    · cases e
theorem fold_can : ∀ {ps : List (List Nat)} {t u : Pt}, Can1 t → foldP t ps = some u → Can1 u
  | [], t, u, h, e => by injection e with e; subst e; exact h
  | p :: ps, t, u, h, e => by
    rw [foldP] at e
    cases hs : step t p with
    | none => rw [hs] at e; cases e
    | some v => rw [hs] at e; exact fold_can (step_can h hs) e
theorem parse_can {s : List Nat} {p : Pt} (h : parse s = some p) : Can p := by
  unfold parse at h
  split at h
  · injection h with h; exact .inl h.symm
  · split at h
    · rename_i hl
      have h0 : Can1 ⟨low (cutP s), [], []⟩ := ⟨ok_low hl, .inl rfl, .inl rfl⟩
      split at h
      · exact .inr (fold_can h0 h)
      · injection h with h; subst h; exact .inr h0
    · cases h

/-- The canonical text. -/
def txt (p : Pt) : List Nat := if p.l = [] then rootT else p.l ++ ((if p.s = [] then [] else 45 :: p.s) ++ (if p.r = [] then [] else 45 :: p.r))
theorem okL_ch {l : List Nat} (h : okL l) : ∀ c ∈ l, Ch c := ch_L (isL_iff.1 h.1).2
theorem okS_ch {l : List Nat} (h : okS l) : ∀ c ∈ l, Ch c := ch_L (isS_iff.1 h.1).2
theorem okR_ch {l : List Nat} (h : okR l) : ∀ c ∈ l, Ch c := ch_R h.1
theorem okL_ne {l : List Nat} (h : okL l) : l ≠ [] := by
  rintro rfl
  have := (isL_iff.1 h.1).1
  simp at this
end D
end Go.Proofs.YteiikacgcfidmaaGreatDoor
set_option linter.unusedVariables false
set_option linter.unusedSimpArgs false
namespace Go.Proofs.YteiikacgcfidmaaGreatDoor
namespace D

/-- Ten bytes. -/
structure Tg where
  l : List Nat
  len : l.length = 10
  lt : ∀ b ∈ l, b < 256
theorem Tg.eq {x y : Tg} (h : x.l = y.l) : x = y := by cases x; cases y; simp at h; subst h; rfl
instance : DecidableEq Tg := fun x y => if h : x.l = y.l then .isTrue (Tg.eq h) else .isFalse fun e => h (by rw [e])
def padn (l : List Nat) (n : Nat) : List Nat := (l ++ List.replicate n 0).take n
theorem padn_len (l : List Nat) (n : Nat) : (padn l n).length = n := by simp [padn]
def tbl (p : Pt) : List Nat := padn p.l 3 ++ (padn p.s 4 ++ padn p.r 3)
theorem tbl_len (p : Pt) : (tbl p).length = 10 := by simp [tbl, padn_len]
def tb (p : Pt) : Tg := ⟨(tbl p).map (· % 256), by simp [tbl_len], by
  intro b hb
  obtain ⟨a, _, rfl⟩ := List.mem_map.1 hb
  exact Nat.mod_lt _ (by decide)⟩
def zero : Tg := tb rt
/-- Bytes up to those that are 0 at the end. -/
def front (l : List Nat) : List Nat := (l.reverse.dropWhile (· == 0)).reverse
/-- Bytes ahead of the first 0. -/
def hd0 (l : List Nat) : List Nat := l.takeWhile (· != 0)
def pl (x : Tg) : List Nat := x.l.take 3
def ps (x : Tg) : List Nat := (x.l.drop 3).take 4
def pr (x : Tg) : List Nat := x.l.drop 7
def frt (x : Tg) : Pt := ⟨front (pl x), front (ps x), front (pr x)⟩
def hds (x : Tg) : Pt := ⟨hd0 (pl x), hd0 (ps x), hd0 (pr x)⟩
def join : List (List Nat) → List Nat
  | [] => []
  | [x] => x
  | x :: y :: r => x ++ 45 :: join (y :: r)
/-- The parts that are not empty. -/
def some3 (p : Pt) : List (List Nat) := (if p.l = [] then [] else [p.l]) ++ ((if p.s = [] then [] else [p.s]) ++ (if p.r = [] then [] else [p.r]))
def spell (x : Tg) : List Nat := if x = zero then rootT else join (some3 (hds x))
/-- The parts of a right tag. -/
def pt (x : Tg) : Option Pt := match parse (spell x) with
  | none => none
  | some p => if tb p = x then some p else none

theorem ch_lt {l : List Nat} (h : ∀ c ∈ l, Ch c) : ∀ c ∈ l, c < 256 := fun c hc => by have := h c hc; unfold Ch at this; omega
theorem can_ch {p : Pt} (h : Can p) : (∀ c ∈ p.l, Ch c) ∧ (∀ c ∈ p.s, Ch c) ∧ (∀ c ∈ p.r, Ch c) := by
  rcases h with rfl | ⟨hl, hs, hr⟩
  · refine ⟨?_, ?_, ?_⟩ <;> (intro c h; cases h)
  · refine ⟨okL_ch hl, ?_, ?_⟩
    · rcases hs with e | hs
      · rw [e]; exact fun c h => by cases h
      · exact okS_ch hs
    · rcases hr with e | hr
      · rw [e]; exact fun c h => by cases h
      · exact okR_ch hr
theorem can_len {p : Pt} (h : Can p) : p.l.length ≤ 3 ∧ p.s.length ≤ 4 ∧ p.r.length ≤ 3 := by
  rcases h with rfl | ⟨hl, hs, hr⟩
  · decide
  · refine ⟨by have := (isL_iff.1 hl.1).1; omega, ?_, ?_⟩
    · rcases hs with e | hs
      · rw [e]; decide
      · have := (isS_iff.1 hs.1).1; omega
    · rcases hr with e | hr
      · rw [e]; decide
      · rcases isR_iff.1 hr.1 with h | h <;> omega
theorem padn_eq {l : List Nat} {n : Nat} (h : l.length ≤ n) : padn l n = l ++ List.replicate (n - l.length) 0 := by
  unfold padn
  rw [List.take_append, List.take_of_length_le h, List.take_replicate, Nat.min_eq_left (by omega)]
theorem mem_padn {l : List Nat} {n c : Nat} (h : c ∈ padn l n) : c ∈ l ∨ c = 0 := by
  have := List.mem_of_mem_take h
  rcases List.mem_append.1 this with h | h
  · exact .inl h
  · exact .inr (List.eq_of_mem_replicate h)
theorem tbl_lt {p : Pt} (hl : ∀ c ∈ p.l, c < 256) (hs : ∀ c ∈ p.s, c < 256) (hr : ∀ c ∈ p.r, c < 256) : ∀ c ∈ tbl p, c < 256 := by
  intro c hc
  unfold tbl at hc
  rcases List.mem_append.1 hc with h | h
  · rcases mem_padn h with h | rfl
    · exact hl c h
    · decide
  · rcases List.mem_append.1 h with h | h
    · rcases mem_padn h with h | rfl
      · exact hs c h
      · decide
    · rcases mem_padn h with h | rfl
      · exact hr c h
      · decide
theorem map_mod {l : List Nat} (h : ∀ c ∈ l, c < 256) : l.map (· % 256) = l := by
  have : ∀ c ∈ l, (fun x => x % 256) c = id c := fun c hc => Nat.mod_eq_of_lt (h c hc)
  rw [List.map_congr_left this, List.map_id]
theorem tb_l {p : Pt} (hl : ∀ c ∈ p.l, c < 256) (hs : ∀ c ∈ p.s, c < 256) (hr : ∀ c ∈ p.r, c < 256) : (tb p).l = tbl p := map_mod (tbl_lt hl hs hr)
theorem can_tb {p : Pt} (h : Can p) : (tb p).l = tbl p := by
  obtain ⟨a, b, c⟩ := can_ch h
  exact tb_l (ch_lt a) (ch_lt b) (ch_lt c)
theorem parts_tb {p : Pt} (h : Can p) : pl (tb p) = padn p.l 3 ∧ ps (tb p) = padn p.s 4 ∧ pr (tb p) = padn p.r 3 := by
  unfold pl ps pr
  rw [can_tb h, tbl]
  have e1 := padn_len p.l 3
  have e2 := padn_len p.s 4
  refine ⟨?_, ?_, ?_⟩
  · rw [List.take_append_of_le_length (by omega), List.take_of_length_le (by omega)]
  · rw [List.drop_append_of_le_length (by omega), List.drop_of_length_le (by omega), List.nil_append, List.take_append_of_le_length (by omega), List.take_of_length_le (by omega)]
  · rw [← List.append_assoc, List.drop_append_of_le_length (by simp; omega), List.drop_of_length_le (by simp; omega), List.nil_append]
theorem front_padn {l : List Nat} {n : Nat} (h : l.length ≤ n) (hc : ∀ c ∈ l, Ch c) : front (padn l n) = l := by
  rw [padn_eq h]
  unfold front
  rw [List.reverse_append, List.reverse_replicate, List.dropWhile_append]
  have e : List.dropWhile (fun x => x == 0) (List.replicate (n - l.length) 0) = [] := by
    rw [List.dropWhile_replicate]; simp
  rw [e]
  simp only [List.isEmpty_nil, if_true]
  have : List.dropWhile (fun x => x == 0) l.reverse = l.reverse := by
    cases hl : l.reverse with
    | nil => rfl
    | cons c t =>
      have : c ∈ l := by rw [← List.mem_reverse, hl]; simp
      have := hc c this
      unfold Ch at this
      rw [List.dropWhile_cons_of_neg (by simp; omega)]
  rw [this, List.reverse_reverse]
theorem hd0_padn {l : List Nat} {n : Nat} (h : l.length ≤ n) (hc : ∀ c ∈ l, Ch c) : hd0 (padn l n) = l := by
  rw [padn_eq h]
  unfold hd0
  rw [List.takeWhile_append_of_pos (fun c hm => by have := hc c hm; unfold Ch at this; simp; omega)]
  have : List.takeWhile (fun x => x != 0) (List.replicate (n - l.length) 0) = [] := by
    cases n - l.length with
    | zero => rfl
    | succ k => rw [List.replicate_succ, List.takeWhile_cons_of_neg (by simp)]
  rw [this, List.append_nil]
theorem frt_tb {p : Pt} (h : Can p) : frt (tb p) = p := by
  obtain ⟨a, b, c⟩ := parts_tb h
  obtain ⟨d, e, f⟩ := can_ch h
  obtain ⟨l1, l2, l3⟩ := can_len h
  unfold frt
  rw [a, b, c, front_padn l1 d, front_padn l2 e, front_padn l3 f]
theorem hds_tb {p : Pt} (h : Can p) : hds (tb p) = p := by
  obtain ⟨a, b, c⟩ := parts_tb h
  obtain ⟨d, e, f⟩ := can_ch h
  obtain ⟨l1, l2, l3⟩ := can_len h
  unfold hds
  rw [a, b, c, hd0_padn l1 d, hd0_padn l2 e, hd0_padn l3 f]
theorem tb_inj {p q : Pt} (h : Can p) (k : Can q) (e : tb p = tb q) : p = q := by rw [← frt_tb h, e, frt_tb k]
theorem join_some3 {p : Pt} (h : p.l ≠ []) : join (some3 p) = txt p := by
  unfold some3 txt
  rw [if_neg h, if_neg h]
  by_cases hs : p.s = [] <;> by_cases hr : p.r = [] <;> simp [hs, hr, join]
theorem spell_tb {p : Pt} (h : Can p) : spell (tb p) = txt p := by
  unfold spell
  rw [hds_tb h]
  by_cases hz : p = rt
  · subst hz
    rw [if_pos (show tb rt = zero from rfl)]; rfl
  · rw [if_neg (fun e : tb p = zero => hz (tb_inj h (.inl rfl) e)), join_some3]
    rcases h with rfl | ⟨hl, _⟩
    · exact absurd rfl hz
    · exact okL_ne hl
theorem pt_some {x : Tg} {p : Pt} (h : pt x = some p) : Can p ∧ tb p = x := by
  unfold pt at h
  split at h
  · cases h
  · rename_i q hq
    split at h
    · rename_i he
      injection h with h
      subst h
      exact ⟨parse_can hq, he⟩
    · cases h
def right (x : Tg) : Bool := (pt x).isSome
/-- Parents and chains. -/
def par (p : Pt) : Option Pt := if p = rt then none else if p.r ≠ [] then some ⟨p.l, p.s, []⟩ else if p.s ≠ [] then some ⟨p.l, [], []⟩ else some rt
def c1 (p : Pt) : List Pt := if p.l ≠ [] then [rt] else []
def c2 (p : Pt) : List Pt := (if p.s ≠ [] then [⟨p.l, [], p.r⟩] else []) ++ c1 p
def chain (p : Pt) : List Pt := p :: ((if p.r ≠ [] then [⟨p.l, p.s, []⟩] else []) ++ ((if p.s ≠ [] then [⟨p.l, [], []⟩] else []) ++ c1 p))
def find (l : List Tg) (k : List Tg) : Option Tg := l.find? (fun x => decide (x ∈ k))
/-- Pieces, so many at most. -/
def spn : Nat → List Nat → List (List Nat)
  | 0, t => [t]
  | k + 1, t => if cutM t then cutP t :: spn k (cutR t) else [t]
theorem spn_more : ∀ (k : Nat) (t : List Nat), t.length ≤ k → ∀ j, spn (k + j) t = spn k t
  | 0, t, h, j => by
    have : t = [] := List.eq_nil_of_length_eq_zero (by omega)
    subst this
    cases j <;> rfl
  | k + 1, t, h, j => by
    rw [show k + 1 + j = (k + j) + 1 by omega, spn, spn]
    split
    · rename_i hm
      rw [spn_more k (cutR t) (by have := cutR_lt hm; omega) j]
    · rfl
end D
end Go.Proofs.YteiikacgcfidmaaGreatDoor
