/-
  
-/
import Derived.Shelf.Strings.Builder1
import Derived.Shelf.Strings.Builder2
import Derived.Shelf.Strings.OnBuilder
import Derived.Shelf.Small.Utf8
import Derived.Shelf.Small.Bits
import Derived.Shelf.Strconv.Itoa0
import Derived.Shelf.Strings.Search1
import Derived.Shelf.Strings.Search2
import Derived.Shelf.Strings.Search3
import Derived.Shelf.Strings.Count
import Derived.Shelf.LaysM
import Derived.Shelf.Strings.Shaped
import Derived.Shelf.Strings.Split
import Derived.Shelf.Unicode.Latin
import Derived.Shelf.Unicode.DecodeSlow
import Derived.Shelf.Unicode.CaseLookup
import Derived.Shelf.Unicode.CaseConvert
import Derived.Shelf.Unicode.CaseTo
import Derived.Shelf.Unicode.CaseLaid
import Derived.Shelf.Bytes.SlIndexSmall
import Derived.Shelf.Bytes.SlIndexAt
import Derived.Shelf.Bytes.SlSearch0
import Derived.Shelf.Bytes.SlSearch1
import Derived.Shelf.Bytes.SlSearch2
import Derived.Shelf.Bytes.SlIndexWhole
import Derived.Shelf.Bytes.SlCut
import Derived.Shelf.Bytes.Small
import Derived.Shelf.Bytes.IndexByte
import Derived.Test.YtjlaffgbmcpldaaGreatDoorProg
import Derived.Test.YtjlaffgbmcpldaaGreatDoorRow
import Derived.Lib.ConvBytes
import Derived.Deep.RegionHeld3
import Derived.Deep.DrawnRows
import Derived.Laws.IdiomStrings
import Derived.Lib.IndexBytes
import Derived.Lib.IndexLaws
import Derived.Deep.QuietTactic
import Derived.BigQuiet
import Derived.IntWalk
import Derived.Laws.BytesString
import Derived.Lib.BufferRead
namespace Go.Proofs.YtjlaffgbmcpldaaGreatDoor
open Go.Shelf Go.RowKit
def lays158_ren : Go.Shelf.Ren := ⟨fun | 158 => 198 | 165 => 210 | 166 => 211 | 167 => 212 | 169 => 213 | 230 => 214 | 203 => 216 | 240 => 228 | 241 => 229 | 197 => 230 | 118 => 231 | 168 => 232 | 270 => 233 | 262 => 234 | 276 => 240 | 277 => 241 | 260 => 242 | 242 => 243 | 313 => 244 | 278 => 248 | 274 => 249 | 275 => 250 | n => n, fun | 9 => 9 | 4 => 4 | 3 => 3 | 5 => 5 | 72 => 336 | 0 => 0 | 76 => 340 | 75 => 339 | 107 => 344 | 70 => 334 | 20 => 20 | 37 => 210 | 127 => 274 | 21 => 21 | 105 => 349 | 164 => 357 | 162 => 363 | 203 => 361 | 119 => 364 | 46 => 196 | 139 => 367 | 138 => 366 | 51 => 73 | 160 => 368 | 208 => 375 | 206 => 373 | 80 => 307 | n => n, fun | 13 => 2 | 3 => 3 | 4 => 4 | n => n⟩
theorem lays158 : Go.Proofs.Lays.n158 Tryz.prog lays158_ren := {
 mixed := by kernel_rfl
 f118 := Tryz.func231.trans (congrArg some (by kernel_rfl))
 f158 := Tryz.func198.trans (congrArg some (by kernel_rfl))
 f165 := Tryz.func210.trans (congrArg some (by kernel_rfl))
 f166 := Tryz.func211.trans (congrArg some (by kernel_rfl))
 f167 := Tryz.func212.trans (congrArg some (by kernel_rfl))
 f168 := Tryz.func232.trans (congrArg some (by kernel_rfl))
 f169 := Tryz.func213.trans (congrArg some (by kernel_rfl))
 f197 := Tryz.func230.trans (congrArg some (by kernel_rfl))
 f203 := Tryz.func216.trans (congrArg some (by kernel_rfl))
 f230 := Tryz.func214.trans (congrArg some (by kernel_rfl))
 f240 := Tryz.func228.trans (congrArg some (by kernel_rfl))
 f241 := Tryz.func229.trans (congrArg some (by kernel_rfl))
 f242 := Tryz.func243.trans (congrArg some (by kernel_rfl))
 f260 := Tryz.func242.trans (congrArg some (by kernel_rfl))
 f262 := Tryz.func234.trans (congrArg some (by kernel_rfl))
 f270 := Tryz.func233.trans (congrArg some (by kernel_rfl))
 f274 := Tryz.func249.trans (congrArg some (by kernel_rfl))
 f275 := Tryz.func250.trans (congrArg some (by kernel_rfl))
 f276 := Tryz.func240.trans (congrArg some (by kernel_rfl))
 f277 := Tryz.func241.trans (congrArg some (by kernel_rfl))
 f278 := Tryz.func248.trans (congrArg some (by kernel_rfl))
 f313 := Tryz.func244.trans (congrArg some (by kernel_rfl))
 t0 := Tryz.underlying0
 a0 := Tryz.isAgg0
 z0 := Tryz.sizeOf0
 v0 := Tryz.zeroValue0
 t3 := Tryz.underlying3
 a3 := Tryz.isAgg3
 z3 := Tryz.sizeOf3
 v3 := Tryz.zeroValue3
 t4 := Tryz.underlying4
 a4 := Tryz.isAgg4
 z4 := Tryz.sizeOf4
 v4 := Tryz.zeroValue4
 t5 := Tryz.underlying5
 a5 := Tryz.isAgg5
 z5 := Tryz.sizeOf5
 v5 := Tryz.zeroValue5
 t9 := Tryz.underlying9
 a9 := Tryz.isAgg9
 z9 := Tryz.sizeOf9
 v9 := Tryz.zeroValue9
 t20 := Tryz.underlying20
 a20 := Tryz.isAgg20
 z20 := Tryz.sizeOf20
 v20 := Tryz.zeroValue20
 t21 := Tryz.underlying21
 a21 := Tryz.isAgg21
 z21 := Tryz.sizeOf21
 v21 := Tryz.zeroValue21
 t37 := Tryz.underlying210
 a37 := Tryz.isAgg210
 z37 := Tryz.sizeOf210
 v37 := Tryz.zeroValue210
 t46 := Tryz.underlying196
 a46 := Tryz.isAgg196
 z46 := Tryz.sizeOf196
 v46 := Tryz.zeroValue196
 t51 := Tryz.underlying73
 a51 := Tryz.isAgg73
 z51 := Tryz.sizeOf73
 v51 := Tryz.zeroValue73
 t70 := Tryz.underlying334
 a70 := Tryz.isAgg334
 z70 := Tryz.sizeOf334
 v70 := Tryz.zeroValue334
 t72 := Tryz.underlying336
 a72 := Tryz.isAgg336
 z72 := Tryz.sizeOf336
 v72 := Tryz.zeroValue336
 t75 := Tryz.underlying339
 a75 := Tryz.isAgg339
 z75 := Tryz.sizeOf339
 v75 := Tryz.zeroValue339
 t76 := Tryz.underlying340
 a76 := Tryz.isAgg340
 z76 := Tryz.sizeOf340
 v76 := Tryz.zeroValue340
 t105 := Tryz.underlying349
 a105 := Tryz.isAgg349
 z105 := Tryz.sizeOf349
 v105 := Tryz.zeroValue349
 t107 := Tryz.underlying344
 a107 := Tryz.isAgg344
 z107 := Tryz.sizeOf344
 v107 := Tryz.zeroValue344
 t119 := Tryz.underlying364
 a119 := Tryz.isAgg364
 z119 := Tryz.sizeOf364
 t127 := Tryz.underlying274
 a127 := Tryz.isAgg274
 z127 := Tryz.sizeOf274
 v127 := Tryz.zeroValue274
 t138 := Tryz.underlying366
 a138 := Tryz.isAgg366
 z138 := Tryz.sizeOf366
 v138 := Tryz.zeroValue366
 t139 := Tryz.underlying367
 a139 := Tryz.isAgg367
 z139 := Tryz.sizeOf367
 v139 := Tryz.zeroValue367
 t160 := Tryz.underlying368
 a160 := Tryz.isAgg368
 z160 := Tryz.sizeOf368
 v160 := Tryz.zeroValue368
 t162 := Tryz.underlying363
 a162 := Tryz.isAgg363
 z162 := Tryz.sizeOf363
 v162 := Tryz.zeroValue363
 t164 := Tryz.underlying357
 a164 := Tryz.isAgg357
 z164 := Tryz.sizeOf357
 v164 := Tryz.zeroValue357
 t203 := Tryz.underlying361
 a203 := Tryz.isAgg361
 z203 := Tryz.sizeOf361
 v203 := Tryz.zeroValue361
 t206 := Tryz.underlying373
 a206 := Tryz.isAgg373
 z206 := Tryz.sizeOf373
 v206 := Tryz.zeroValue373
 t208 := Tryz.underlying375
 a208 := Tryz.isAgg375
 z208 := Tryz.sizeOf375
 v208 := Tryz.zeroValue375
 g3 := by kernel_rfl
 g4 := by kernel_rfl
 g13 := by kernel_rfl }
theorem Builder_Extra_158 : Builder.Extra Tryz.prog lays158_ren := {
 sizeBuilder := by kernel_rfl
 liesBuilder := by kernel_rfl
 t5 := Tryz.underlying5
 a5 := Tryz.isAgg5
 z5 := Tryz.sizeOf5
 v5 := Tryz.zeroValue5
 infoByte := by kernel_rfl
 cellsByte := by kernel_rfl
 sizeByte := by kernel_rfl
 neB5 := by decide }
def lays159_ren : Go.Shelf.Ren := ⟨fun | 159 => 196 | 165 => 210 | 166 => 211 | 167 => 212 | 169 => 213 | 230 => 214 | 204 => 215 | 240 => 228 | 241 => 229 | 197 => 230 | 118 => 231 | 168 => 232 | 270 => 233 | 262 => 234 | 276 => 240 | 277 => 241 | 260 => 242 | 242 => 243 | 313 => 244 | 278 => 248 | 274 => 249 | 275 => 250 | n => n, fun | 9 => 9 | 4 => 4 | 3 => 3 | 5 => 5 | 72 => 336 | 0 => 0 | 76 => 340 | 75 => 339 | 107 => 344 | 70 => 334 | 20 => 20 | 37 => 210 | 127 => 274 | 21 => 21 | 105 => 349 | 164 => 357 | 162 => 363 | 203 => 361 | 119 => 364 | 46 => 196 | 139 => 367 | 138 => 366 | 51 => 73 | 160 => 368 | 208 => 375 | 206 => 373 | 80 => 307 | n => n, fun | 13 => 2 | 3 => 3 | 4 => 4 | n => n⟩
theorem lays159 : Go.Proofs.Lays.n159 Tryz.prog lays159_ren := {
 mixed := by kernel_rfl
 f118 := Tryz.func231.trans (congrArg some (by kernel_rfl))
 f159 := Tryz.func196.trans (congrArg some (by kernel_rfl))
 f165 := Tryz.func210.trans (congrArg some (by kernel_rfl))
 f166 := Tryz.func211.trans (congrArg some (by kernel_rfl))
 f167 := Tryz.func212.trans (congrArg some (by kernel_rfl))
 f168 := Tryz.func232.trans (congrArg some (by kernel_rfl))
 f169 := Tryz.func213.trans (congrArg some (by kernel_rfl))
 f197 := Tryz.func230.trans (congrArg some (by kernel_rfl))
 f204 := Tryz.func215.trans (congrArg some (by kernel_rfl))
 f230 := Tryz.func214.trans (congrArg some (by kernel_rfl))
 f240 := Tryz.func228.trans (congrArg some (by kernel_rfl))
 f241 := Tryz.func229.trans (congrArg some (by kernel_rfl))
 f242 := Tryz.func243.trans (congrArg some (by kernel_rfl))
 f260 := Tryz.func242.trans (congrArg some (by kernel_rfl))
 f262 := Tryz.func234.trans (congrArg some (by kernel_rfl))
 f270 := Tryz.func233.trans (congrArg some (by kernel_rfl))
 f274 := Tryz.func249.trans (congrArg some (by kernel_rfl))
 f275 := Tryz.func250.trans (congrArg some (by kernel_rfl))
 f276 := Tryz.func240.trans (congrArg some (by kernel_rfl))
 f277 := Tryz.func241.trans (congrArg some (by kernel_rfl))
 f278 := Tryz.func248.trans (congrArg some (by kernel_rfl))
 f313 := Tryz.func244.trans (congrArg some (by kernel_rfl))
 t0 := Tryz.underlying0
 a0 := Tryz.isAgg0
 z0 := Tryz.sizeOf0
 v0 := Tryz.zeroValue0
 t3 := Tryz.underlying3
 a3 := Tryz.isAgg3
 z3 := Tryz.sizeOf3
 v3 := Tryz.zeroValue3
 t4 := Tryz.underlying4
 a4 := Tryz.isAgg4
 z4 := Tryz.sizeOf4
 v4 := Tryz.zeroValue4
 t5 := Tryz.underlying5
 a5 := Tryz.isAgg5
 z5 := Tryz.sizeOf5
 v5 := Tryz.zeroValue5
 t9 := Tryz.underlying9
 a9 := Tryz.isAgg9
 z9 := Tryz.sizeOf9
 v9 := Tryz.zeroValue9
 t20 := Tryz.underlying20
 a20 := Tryz.isAgg20
 z20 := Tryz.sizeOf20
 v20 := Tryz.zeroValue20
 t21 := Tryz.underlying21
 a21 := Tryz.isAgg21
 z21 := Tryz.sizeOf21
 v21 := Tryz.zeroValue21
 t37 := Tryz.underlying210
 a37 := Tryz.isAgg210
 z37 := Tryz.sizeOf210
 v37 := Tryz.zeroValue210
 t46 := Tryz.underlying196
 a46 := Tryz.isAgg196
 z46 := Tryz.sizeOf196
 v46 := Tryz.zeroValue196
 t51 := Tryz.underlying73
 a51 := Tryz.isAgg73
 z51 := Tryz.sizeOf73
 v51 := Tryz.zeroValue73
 t70 := Tryz.underlying334
 a70 := Tryz.isAgg334
 z70 := Tryz.sizeOf334
 v70 := Tryz.zeroValue334
 t72 := Tryz.underlying336
 a72 := Tryz.isAgg336
 z72 := Tryz.sizeOf336
 v72 := Tryz.zeroValue336
 t75 := Tryz.underlying339
 a75 := Tryz.isAgg339
 z75 := Tryz.sizeOf339
 v75 := Tryz.zeroValue339
 t76 := Tryz.underlying340
 a76 := Tryz.isAgg340
 z76 := Tryz.sizeOf340
 v76 := Tryz.zeroValue340
 t105 := Tryz.underlying349
 a105 := Tryz.isAgg349
 z105 := Tryz.sizeOf349
 v105 := Tryz.zeroValue349
 t107 := Tryz.underlying344
 a107 := Tryz.isAgg344
 z107 := Tryz.sizeOf344
 v107 := Tryz.zeroValue344
 t119 := Tryz.underlying364
 a119 := Tryz.isAgg364
 z119 := Tryz.sizeOf364
 t127 := Tryz.underlying274
 a127 := Tryz.isAgg274
 z127 := Tryz.sizeOf274
 v127 := Tryz.zeroValue274
 t138 := Tryz.underlying366
 a138 := Tryz.isAgg366
 z138 := Tryz.sizeOf366
 v138 := Tryz.zeroValue366
 t139 := Tryz.underlying367
 a139 := Tryz.isAgg367
 z139 := Tryz.sizeOf367
 v139 := Tryz.zeroValue367
 t160 := Tryz.underlying368
 a160 := Tryz.isAgg368
 z160 := Tryz.sizeOf368
 v160 := Tryz.zeroValue368
 t162 := Tryz.underlying363
 a162 := Tryz.isAgg363
 z162 := Tryz.sizeOf363
 v162 := Tryz.zeroValue363
 t164 := Tryz.underlying357
 a164 := Tryz.isAgg357
 z164 := Tryz.sizeOf357
 v164 := Tryz.zeroValue357
 t203 := Tryz.underlying361
 a203 := Tryz.isAgg361
 z203 := Tryz.sizeOf361
 v203 := Tryz.zeroValue361
 t206 := Tryz.underlying373
 a206 := Tryz.isAgg373
 z206 := Tryz.sizeOf373
 v206 := Tryz.zeroValue373
 t208 := Tryz.underlying375
 a208 := Tryz.isAgg375
 z208 := Tryz.sizeOf375
 v208 := Tryz.zeroValue375
 g3 := by kernel_rfl
 g4 := by kernel_rfl
 g13 := by kernel_rfl }
theorem Builder_Extra_159 : Builder.Extra Tryz.prog lays159_ren := {
 sizeBuilder := by kernel_rfl
 liesBuilder := by kernel_rfl
 t5 := Tryz.underlying5
 a5 := Tryz.isAgg5
 z5 := Tryz.sizeOf5
 v5 := Tryz.zeroValue5
 infoByte := by kernel_rfl
 cellsByte := by kernel_rfl
 sizeByte := by kernel_rfl
 neB5 := by decide }
def lays156_ren : Go.Shelf.Ren := ⟨fun | 156 => 200 | 165 => 210 | 166 => 211 | 169 => 213 | 240 => 228 | 241 => 229 | 276 => 240 | 277 => 241 | n => n, fun | 31 => 239 | 9 => 9 | 3 => 3 | 4 => 4 | 0 => 0 | 20 => 20 | 72 => 336 | 76 => 340 | 70 => 334 | 37 => 210 | 75 => 339 | 127 => 274 | 164 => 357 | 5 => 5 | 80 => 307 | n => n, fun | n => n⟩
theorem lays156 : Go.Proofs.Lays.n156 Tryz.prog lays156_ren := {
 mixed := by kernel_rfl
 f156 := Tryz.func200.trans (congrArg some (by kernel_rfl))
 f165 := Tryz.func210.trans (congrArg some (by kernel_rfl))
 f166 := Tryz.func211.trans (congrArg some (by kernel_rfl))
 f169 := Tryz.func213.trans (congrArg some (by kernel_rfl))
 f240 := Tryz.func228.trans (congrArg some (by kernel_rfl))
 f241 := Tryz.func229.trans (congrArg some (by kernel_rfl))
 f276 := Tryz.func240.trans (congrArg some (by kernel_rfl))
 f277 := Tryz.func241.trans (congrArg some (by kernel_rfl))
 t0 := Tryz.underlying0
 a0 := Tryz.isAgg0
 z0 := Tryz.sizeOf0
 v0 := Tryz.zeroValue0
 t3 := Tryz.underlying3
 a3 := Tryz.isAgg3
 z3 := Tryz.sizeOf3
 v3 := Tryz.zeroValue3
 t4 := Tryz.underlying4
 a4 := Tryz.isAgg4
 z4 := Tryz.sizeOf4
 v4 := Tryz.zeroValue4
 t9 := Tryz.underlying9
 a9 := Tryz.isAgg9
 z9 := Tryz.sizeOf9
 v9 := Tryz.zeroValue9
 t20 := Tryz.underlying20
 a20 := Tryz.isAgg20
 z20 := Tryz.sizeOf20
 v20 := Tryz.zeroValue20
 t31 := Tryz.underlying239
 a31 := Tryz.isAgg239
 z31 := Tryz.sizeOf239
 v31 := Tryz.zeroValue239
 t37 := Tryz.underlying210
 a37 := Tryz.isAgg210
 z37 := Tryz.sizeOf210
 v37 := Tryz.zeroValue210
 t70 := Tryz.underlying334
 a70 := Tryz.isAgg334
 z70 := Tryz.sizeOf334
 v70 := Tryz.zeroValue334
 t72 := Tryz.underlying336
 a72 := Tryz.isAgg336
 z72 := Tryz.sizeOf336
 v72 := Tryz.zeroValue336
 t75 := Tryz.underlying339
 a75 := Tryz.isAgg339
 z75 := Tryz.sizeOf339
 v75 := Tryz.zeroValue339
 t76 := Tryz.underlying340
 a76 := Tryz.isAgg340
 z76 := Tryz.sizeOf340
 v76 := Tryz.zeroValue340
 t127 := Tryz.underlying274
 a127 := Tryz.isAgg274
 z127 := Tryz.sizeOf274
 v127 := Tryz.zeroValue274
 t164 := Tryz.underlying357
 a164 := Tryz.isAgg357
 z164 := Tryz.sizeOf357
 v164 := Tryz.zeroValue357 }
theorem Builder_Extra_156 : Builder.Extra Tryz.prog lays156_ren := {
 sizeBuilder := by kernel_rfl
 liesBuilder := by kernel_rfl
 t5 := Tryz.underlying5
 a5 := Tryz.isAgg5
 z5 := Tryz.sizeOf5
 v5 := Tryz.zeroValue5
 infoByte := by kernel_rfl
 cellsByte := by kernel_rfl
 sizeByte := by kernel_rfl
 neB5 := by decide }
def lays147_ren : Go.Shelf.Ren := ⟨fun | 147 => 194 | 221 => 207 | 268 => 225 | 138 => 226 | 143 => 227 | 195 => 237 | 197 => 230 | 218 => 238 | 219 => 239 | 260 => 242 | 217 => 245 | 225 => 246 | 224 => 223 | 267 => 247 | 266 => 251 | 314 => 252 | n => n, fun | 9 => 9 | 3 => 3 | 31 => 239 | 4 => 4 | 0 => 0 | 105 => 349 | 21 => 21 | 5 => 5 | 46 => 196 | 119 => 364 | 139 => 367 | 138 => 366 | 146 => 354 | 51 => 73 | n => n, fun | 1 => 1 | 3 => 3 | 4 => 4 | n => n⟩
theorem lays147 : Go.Proofs.Lays.n147 Tryz.prog lays147_ren := {
 mixed := by kernel_rfl
 f138 := Tryz.func226.trans (congrArg some (by kernel_rfl))
 f143 := Tryz.func227.trans (congrArg some (by kernel_rfl))
 f147 := Tryz.func194.trans (congrArg some (by kernel_rfl))
 f195 := Tryz.func237.trans (congrArg some (by kernel_rfl))
 f197 := Tryz.func230.trans (congrArg some (by kernel_rfl))
 f217 := Tryz.func245.trans (congrArg some (by kernel_rfl))
 f218 := Tryz.func238.trans (congrArg some (by kernel_rfl))
 f219 := Tryz.func239.trans (congrArg some (by kernel_rfl))
 f221 := Tryz.func207.trans (congrArg some (by kernel_rfl))
 f224 := Tryz.func223.trans (congrArg some (by kernel_rfl))
 f225 := Tryz.func246.trans (congrArg some (by kernel_rfl))
 f260 := Tryz.func242.trans (congrArg some (by kernel_rfl))
 f266 := Tryz.func251.trans (congrArg some (by kernel_rfl))
 f267 := Tryz.func247.trans (congrArg some (by kernel_rfl))
 f268 := Tryz.func225.trans (congrArg some (by kernel_rfl))
 f314 := Tryz.func252.trans (congrArg some (by kernel_rfl))
 t0 := Tryz.underlying0
 a0 := Tryz.isAgg0
 z0 := Tryz.sizeOf0
 v0 := Tryz.zeroValue0
 t3 := Tryz.underlying3
 a3 := Tryz.isAgg3
 z3 := Tryz.sizeOf3
 v3 := Tryz.zeroValue3
 t4 := Tryz.underlying4
 a4 := Tryz.isAgg4
 z4 := Tryz.sizeOf4
 v4 := Tryz.zeroValue4
 t5 := Tryz.underlying5
 a5 := Tryz.isAgg5
 z5 := Tryz.sizeOf5
 v5 := Tryz.zeroValue5
 t9 := Tryz.underlying9
 a9 := Tryz.isAgg9
 z9 := Tryz.sizeOf9
 v9 := Tryz.zeroValue9
 t21 := Tryz.underlying21
 a21 := Tryz.isAgg21
 z21 := Tryz.sizeOf21
 v21 := Tryz.zeroValue21
 t31 := Tryz.underlying239
 a31 := Tryz.isAgg239
 z31 := Tryz.sizeOf239
 v31 := Tryz.zeroValue239
 t46 := Tryz.underlying196
 a46 := Tryz.isAgg196
 z46 := Tryz.sizeOf196
 v46 := Tryz.zeroValue196
 t51 := Tryz.underlying73
 a51 := Tryz.isAgg73
 z51 := Tryz.sizeOf73
 v51 := Tryz.zeroValue73
 t105 := Tryz.underlying349
 a105 := Tryz.isAgg349
 z105 := Tryz.sizeOf349
 v105 := Tryz.zeroValue349
 t119 := Tryz.underlying364
 a119 := Tryz.isAgg364
 z119 := Tryz.sizeOf364
 t138 := Tryz.underlying366
 a138 := Tryz.isAgg366
 z138 := Tryz.sizeOf366
 v138 := Tryz.zeroValue366
 t139 := Tryz.underlying367
 a139 := Tryz.isAgg367
 z139 := Tryz.sizeOf367
 v139 := Tryz.zeroValue367
 t146 := Tryz.underlying354
 a146 := Tryz.isAgg354
 z146 := Tryz.sizeOf354
 v146 := Tryz.zeroValue354
 g1 := by kernel_rfl
 g3 := by kernel_rfl
 g4 := by kernel_rfl }
def lays185_ren : Go.Shelf.Ren := ⟨fun | 185 => 206 | 187 => 220 | 115 => 221 | 253 => 222 | 224 => 223 | 254 => 224 | 255 => 235 | 291 => 236 | n => n, fun | 37 => 210 | 3 => 3 | 4 => 4 | 0 => 0 | 5 => 5 | 46 => 196 | 9 => 9 | 146 => 354 | 51 => 73 | n => n, fun | 1 => 1 | n => n⟩
theorem lays185 : Go.Proofs.Lays.n185 Tryz.prog lays185_ren := {
 mixed := by kernel_rfl
 f115 := Tryz.func221.trans (congrArg some (by kernel_rfl))
 f185 := Tryz.func206.trans (congrArg some (by kernel_rfl))
 f187 := Tryz.func220.trans (congrArg some (by kernel_rfl))
 f224 := Tryz.func223.trans (congrArg some (by kernel_rfl))
 f253 := Tryz.func222.trans (congrArg some (by kernel_rfl))
 f254 := Tryz.func224.trans (congrArg some (by kernel_rfl))
 f255 := Tryz.func235.trans (congrArg some (by kernel_rfl))
 f291 := Tryz.func236.trans (congrArg some (by kernel_rfl))
 t0 := Tryz.underlying0
 a0 := Tryz.isAgg0
 z0 := Tryz.sizeOf0
 v0 := Tryz.zeroValue0
 t3 := Tryz.underlying3
 a3 := Tryz.isAgg3
 z3 := Tryz.sizeOf3
 v3 := Tryz.zeroValue3
 t4 := Tryz.underlying4
 a4 := Tryz.isAgg4
 z4 := Tryz.sizeOf4
 v4 := Tryz.zeroValue4
 t5 := Tryz.underlying5
 a5 := Tryz.isAgg5
 z5 := Tryz.sizeOf5
 v5 := Tryz.zeroValue5
 t9 := Tryz.underlying9
 a9 := Tryz.isAgg9
 z9 := Tryz.sizeOf9
 v9 := Tryz.zeroValue9
 t37 := Tryz.underlying210
 a37 := Tryz.isAgg210
 z37 := Tryz.sizeOf210
 v37 := Tryz.zeroValue210
 t46 := Tryz.underlying196
 a46 := Tryz.isAgg196
 z46 := Tryz.sizeOf196
 v46 := Tryz.zeroValue196
 t51 := Tryz.underlying73
 a51 := Tryz.isAgg73
 z51 := Tryz.sizeOf73
 v51 := Tryz.zeroValue73
 t146 := Tryz.underlying354
 a146 := Tryz.isAgg354
 z146 := Tryz.sizeOf354
 v146 := Tryz.zeroValue354
 g1 := by kernel_rfl }
def laysSlT4_ren : Go.Shelf.Ren := ⟨fun | 4 => 193 | 5 => 206 | 6 => 220 | 7 => 221 | 8 => 222 | 9 => 223 | 10 => 224 | 11 => 235 | 12 => 236 | n => n, fun | 22 => 210 | 4 => 4 | 3 => 3 | 0 => 0 | 5 => 5 | 29 => 196 | 9 => 9 | 31 => 354 | 30 => 73 | n => n, fun | 0 => 1 | n => n⟩
theorem laysSlT4 : Go.Proofs.SlLaysT.n4 Tryz.prog laysSlT4_ren := {
 mixed := by kernel_rfl
 f4 := Tryz.func193.trans (congrArg some (by kernel_rfl))
 f5 := Tryz.func206.trans (congrArg some (by kernel_rfl))
 f6 := Tryz.func220.trans (congrArg some (by kernel_rfl))
 f7 := Tryz.func221.trans (congrArg some (by kernel_rfl))
 f8 := Tryz.func222.trans (congrArg some (by kernel_rfl))
 f9 := Tryz.func223.trans (congrArg some (by kernel_rfl))
 f10 := Tryz.func224.trans (congrArg some (by kernel_rfl))
 f11 := Tryz.func235.trans (congrArg some (by kernel_rfl))
 f12 := Tryz.func236.trans (congrArg some (by kernel_rfl))
 t0 := Tryz.underlying0
 a0 := Tryz.isAgg0
 z0 := Tryz.sizeOf0
 v0 := Tryz.zeroValue0
 t3 := Tryz.underlying3
 a3 := Tryz.isAgg3
 z3 := Tryz.sizeOf3
 v3 := Tryz.zeroValue3
 t4 := Tryz.underlying4
 a4 := Tryz.isAgg4
 z4 := Tryz.sizeOf4
 v4 := Tryz.zeroValue4
 t5 := Tryz.underlying5
 a5 := Tryz.isAgg5
 z5 := Tryz.sizeOf5
 v5 := Tryz.zeroValue5
 t9 := Tryz.underlying9
 a9 := Tryz.isAgg9
 z9 := Tryz.sizeOf9
 v9 := Tryz.zeroValue9
 t22 := Tryz.underlying210
 a22 := Tryz.isAgg210
 z22 := Tryz.sizeOf210
 v22 := Tryz.zeroValue210
 t29 := Tryz.underlying196
 a29 := Tryz.isAgg196
 z29 := Tryz.sizeOf196
 v29 := Tryz.zeroValue196
 t30 := Tryz.underlying73
 a30 := Tryz.isAgg73
 z30 := Tryz.sizeOf73
 v30 := Tryz.zeroValue73
 t31 := Tryz.underlying354
 a31 := Tryz.isAgg354
 z31 := Tryz.sizeOf354
 v31 := Tryz.zeroValue354
 g0 := by kernel_rfl }
end Go.Proofs.YtjlaffgbmcpldaaGreatDoor
set_option linter.unusedVariables false
set_option linter.unusedSimpArgs false
namespace Go.Proofs.YtjlaffgbmcpldaaGreatDoor
open Go.RowKit

theorem letter_any (c : Nat) (w : World) : Calls Tryz.prog 209 #[.int .u8 c] w fun e w' => e = .returned (.bool (D.letB c)) ∧ w = w' := by
 go_enter Tryz.func209, Tryz.ntmps209
 go_wp2
 all_goals
  go_ret
  refine ⟨bool_of ?_, rfl⟩
  unfold D.letB
  rw [Bool.eq_iff_iff]
  simp
  omega
theorem digit_any (c : Nat) (w : World) : Calls Tryz.prog 217 #[.int .u8 c] w fun e w' => e = .returned (.bool (D.digB c)) ∧ w = w' := by
 go_enter Tryz.func217, Tryz.ntmps217
 go_wp2
 all_goals
  go_ret
  refine ⟨bool_of ?_, rfl⟩
  unfold D.digB
  rw [Bool.eq_iff_iff]
  simp
  try omega
theorem ns_at {s : ByteArray} {k : Nat} (h : k < s.size) : (D.ns s)[k]? = some (s[k].toNat) := by
 simp [D.ns]
 exact ⟨s[k], by rw [Array.getElem?_eq_getElem (by exact h)]; rfl, rfl⟩
structure Fine (f : Nat → Bool) (t : List Nat) (k : Nat) : Prop where
 out : (t.take k).all f = true
theorem fine_first (f : Nat → Bool) (t : List Nat) : Fine f t 0 := ⟨rfl⟩
theorem take_next {t : List Nat} {k b : Nat} (h : t[k]? = some b) : t.take (k + 1) = t.take k ++ [b] := by rw [List.take_add_one, h]; rfl
theorem fine_next {f : Nat → Bool} {t : List Nat} {k b : Nat} (h : Fine f t k) (hb : t[k]? = some b) (hm : f b = true) : Fine f t (k + 1) := ⟨by rw [take_next hb, List.all_append, h.out]; simp [hm]⟩
theorem fine_all {f : Nat → Bool} {t : List Nat} {k : Nat} (h : Fine f t k) (hk : t.length ≤ k) : t.all f = true := by have := h.out; rwa [List.take_of_length_le hk] at this
theorem not_fine {f : Nat → Bool} {t : List Nat} {k b : Nat} (hb : t[k]? = some b) (hm : f b = false) : t.all f = false := by
 cases h : t.all f
 ·rfl
 ·have := List.all_eq_true.1 h b (List.mem_of_getElem? hb)
  rw [hm] at this; cases this
theorem all_letter (s : ByteArray) (w : World) (hs : s.size ≤ 100) : Calls Tryz.prog 208 #[.string s, .func (.func 209) #[] #[]] w fun e w' => e = .returned (.bool (D.allL (D.ns s))) ∧ w = w' := by
 go_enter Tryz.func208, Tryz.ntmps208
 go_wp2
 go_loop [8] (fun i => ∃ k : Nat, k ≤ s.size ∧ i = .int .i64 k ∧ Fine D.letB (D.ns s) k) (fun i => s.size - (intOf i).toNat)
 case atStart => exact ⟨0, Nat.zero_le _, rfl, fine_first _ _⟩
 case round =>
  obtain ⟨k, hk, rfl, hf⟩ := hrel
  by_cases hlt : k < s.size
  ·have hb := ns_at hlt
   obtain ⟨c, hc⟩ : ∃ c, s[k].toNat = c := ⟨_, rfl⟩
   rw [hc] at hb
   have H := Lib.hid (fun w => letter_any c w)
   rw [← hc] at H
   obtain ⟨b, hv⟩ : ∃ b, D.letB (s[k].toNat) = b := ⟨_, rfl⟩
   rw [hv] at H
   have HB := Lib.hid hb
   have HV := Lib.hid hv
   have HC := Lib.hid hc
   clear hb hv hc
   cases b
   ·go_wp2_with (go_at_call 209; (with_reducible refine (H.out _).mono ?_); rintro e w' ⟨rfl, rfl⟩)
    go_ret
    exact ⟨bool_of (not_fine HB.out (by rw [← HC.out]; exact HV.out)).symm, rfl⟩
   ·go_wp2_with (go_at_call 209; (with_reducible refine (H.out _).mono ?_); rintro e w' ⟨rfl, rfl⟩)
    go_round
    case rel => exact ⟨k + 1, by omega, by go_num, fine_next hf HB.out (by rw [← HC.out]; exact HV.out)⟩
    case measure => simp [intOf]; omega
  ·go_wp2
   go_ret
   exact ⟨bool_of (fine_all hf (by rw [D.ns_len]; omega)).symm, rfl⟩
theorem all_digit (s : ByteArray) (w : World) (hs : s.size ≤ 100) : Calls Tryz.prog 208 #[.string s, .func (.func 217) #[] #[]] w fun e w' => e = .returned (.bool (D.allD (D.ns s))) ∧ w = w' := by
 go_enter Tryz.func208, Tryz.ntmps208
 go_wp2
 go_loop [8] (fun i => ∃ k : Nat, k ≤ s.size ∧ i = .int .i64 k ∧ Fine D.digB (D.ns s) k) (fun i => s.size - (intOf i).toNat)
 case atStart => exact ⟨0, Nat.zero_le _, rfl, fine_first _ _⟩
 case round =>
  obtain ⟨k, hk, rfl, hf⟩ := hrel
  by_cases hlt : k < s.size
  ·have hb := ns_at hlt
   obtain ⟨c, hc⟩ : ∃ c, s[k].toNat = c := ⟨_, rfl⟩
   rw [hc] at hb
   have H := Lib.hid (fun w => digit_any c w)
   rw [← hc] at H
   obtain ⟨b, hv⟩ : ∃ b, D.digB (s[k].toNat) = b := ⟨_, rfl⟩
   rw [hv] at H
   have HB := Lib.hid hb
   have HV := Lib.hid hv
   have HC := Lib.hid hc
   clear hb hv hc
   cases b
   ·go_wp2_with (go_at_call 217; (with_reducible refine (H.out _).mono ?_); rintro e w' ⟨rfl, rfl⟩)
    go_ret
    exact ⟨bool_of (not_fine HB.out (by rw [← HC.out]; exact HV.out)).symm, rfl⟩
   ·go_wp2_with (go_at_call 217; (with_reducible refine (H.out _).mono ?_); rintro e w' ⟨rfl, rfl⟩)
    go_round
    case rel => exact ⟨k + 1, by omega, by go_num, fine_next hf HB.out (by rw [← HC.out]; exact HV.out)⟩
    case measure => simp [intOf]; omega
  ·go_wp2
   go_ret
   exact ⟨bool_of (fine_all hf (by rw [D.ns_len]; omega)).symm, rfl⟩
theorem isLang_any (s : ByteArray) (w : World) (hs : s.size ≤ 100) : Calls Tryz.prog 195 #[.string s] w fun e w' => e = .returned (.bool (D.isL (D.ns s))) ∧ w = w' := by
 have H := Lib.hid (fun w => all_letter s w hs)
 obtain ⟨b, hb⟩ : ∃ b, D.allL (D.ns s) = b := ⟨_, rfl⟩
 rw [hb] at H
 have E : D.isL (D.ns s) = ((s.size == 2 || s.size == 3) && b) := by rw [← hb, D.isL, D.ns_len]
 rw [E]
 clear E hb
 go_enter Tryz.func195, Tryz.ntmps195
 by_cases h2 : s.size = 2
 ·have c2 : ((s.size : Int) == 2) = true := by rw [beq_iff_eq]; omega
  have e2 : ((s.size == 2 || s.size == 3) && b) = b := by simp [h2]
  rw [e2]
  clear e2 h2
  go_wp2_with (go_at_call 208; (with_reducible refine (H.out _).mono ?_); rintro e w' ⟨rfl, rfl⟩)
  go_ret
  exact ⟨rfl, rfl⟩
 ·have c2 : ((s.size : Int) == 2) = false := by rw [beq_eq_false_iff_ne]; omega
  by_cases h3 : s.size = 3
  ·have c3 : ((s.size : Int) == 3) = true := by rw [beq_iff_eq]; omega
   have e2 : ((s.size == 2 || s.size == 3) && b) = b := by simp [h3]
   rw [e2]
   clear e2 h2 h3
   go_wp2_with (go_at_call 208; (with_reducible refine (H.out _).mono ?_); rintro e w' ⟨rfl, rfl⟩)
   go_ret
   exact ⟨rfl, rfl⟩
  ·have c3 : ((s.size : Int) == 3) = false := by rw [beq_eq_false_iff_ne]; omega
   have e2 : ((s.size == 2 || s.size == 3) && b) = false := by simp [h2, h3]
   rw [e2]
   clear e2 h2 h3
   go_wp2
   go_ret
   exact ⟨rfl, rfl⟩
theorem isScript_any (s : ByteArray) (w : World) (hs : s.size ≤ 100) : Calls Tryz.prog 197 #[.string s] w fun e w' => e = .returned (.bool (D.isS (D.ns s))) ∧ w = w' := by
 have H := Lib.hid (fun w => all_letter s w hs)
 obtain ⟨b, hb⟩ : ∃ b, D.allL (D.ns s) = b := ⟨_, rfl⟩
 rw [hb] at H
 have E : D.isS (D.ns s) = (s.size == 4 && b) := by rw [← hb, D.isS, D.ns_len]
 rw [E]
 clear E hb
 go_enter Tryz.func197, Tryz.ntmps197
 by_cases h2 : s.size = 4
 ·have c2 : ((s.size : Int) == 4) = true := by rw [beq_iff_eq]; omega
  have e2 : (s.size == 4 && b) = b := by simp [h2]
  rw [e2]
  clear e2 h2
  go_wp2_with (go_at_call 208; (with_reducible refine (H.out _).mono ?_); rintro e w' ⟨rfl, rfl⟩)
  go_ret
  exact ⟨rfl, rfl⟩
 ·have c2 : ((s.size : Int) == 4) = false := by rw [beq_eq_false_iff_ne]; omega
  have e2 : (s.size == 4 && b) = false := by simp [h2]
  rw [e2]
  clear e2 h2
  go_wp2
  go_ret
  exact ⟨rfl, rfl⟩
theorem isRegion_any (s : ByteArray) (w : World) (hs : s.size ≤ 100) : Calls Tryz.prog 199 #[.string s] w fun e w' => e = .returned (.bool (D.isR (D.ns s))) ∧ w = w' := by
 have H := Lib.hid (fun w => all_letter s w hs)
 have K := Lib.hid (fun w => all_digit s w hs)
 obtain ⟨b, hb⟩ : ∃ b, D.allL (D.ns s) = b := ⟨_, rfl⟩
 obtain ⟨d, hd⟩ : ∃ d, D.allD (D.ns s) = d := ⟨_, rfl⟩
 rw [hb] at H
 rw [hd] at K
 have E : D.isR (D.ns s) = (s.size == 2 && b || s.size == 3 && d) := by rw [← hb, ← hd, D.isR, D.ns_len]
 rw [E]
 clear E hb hd
 go_enter Tryz.func199, Tryz.ntmps199
 by_cases h2 : s.size = 2
 ·have c2 : ((s.size : Int) == 2) = true := by rw [beq_iff_eq]; omega
  have c3 : ((s.size : Int) == 3) = false := by rw [beq_eq_false_iff_ne]; omega
  have e2 : (s.size == 2 && b || s.size == 3 && d) = b := by simp [h2]
  rw [e2]
  clear e2 h2
  cases b
  all_goals
   go_wp2_with (go_at_call 208; (with_reducible refine (H.out _).mono ?_); rintro e w' ⟨rfl, rfl⟩)
   go_ret
   exact ⟨rfl, rfl⟩
 ·have c2 : ((s.size : Int) == 2) = false := by rw [beq_eq_false_iff_ne]; omega
  by_cases h3 : s.size = 3
  ·have c3 : ((s.size : Int) == 3) = true := by rw [beq_iff_eq]; omega
   have e2 : (s.size == 2 && b || s.size == 3 && d) = d := by simp [h3]
   rw [e2]
   clear e2 h2 h3
   go_wp2_with (go_at_call 208; (with_reducible refine (K.out _).mono ?_); rintro e w' ⟨rfl, rfl⟩)
   go_ret
   exact ⟨rfl, rfl⟩
  ·have c3 : ((s.size : Int) == 3) = false := by rw [beq_eq_false_iff_ne]; omega
   have e2 : (s.size == 2 && b || s.size == 3 && d) = false := by simp [h2, h3]
   rw [e2]
   clear e2 h2 h3
   go_wp2
   go_ret
   exact ⟨rfl, rfl⟩
end Go.Proofs.YtjlaffgbmcpldaaGreatDoor
namespace Go.Proofs.YtjlaffgbmcpldaaGreatDoor
open Go.RowKit Go.Shelf

theorem low_list (l : List UInt8) : ((Lib.toLowerA l).map (·.toNat)) = D.low (l.map (·.toNat)) := by
 simp only [Lib.toLowerA, D.low, List.map_map]
 refine List.map_congr_left fun b _ => ?_
 show (Lib.lowerB b).toNat = D.lowB b.toNat
 have hi := Lib.isUpperB_int b
 unfold D.lowB
 cases h : Lib.isUpperB b with
 | false =>
  rw [h] at hi
  simp only [eq_comm (a := false), Bool.and_eq_false_iff, decide_eq_false_iff_not] at hi
  rw [Lib.lowerB_of_not b h, if_neg (by omega)]
 | true =>
  have h2 := Lib.lowerB_int b h
  rw [h] at hi
  simp only [eq_comm (a := true), Bool.and_eq_true, decide_eq_true_eq] at hi
  rw [if_pos (by omega)]
  omega
theorem up_list (l : List UInt8) : ((Lib.toUpperA l).map (·.toNat)) = D.up (l.map (·.toNat)) := by
 simp only [Lib.toUpperA, D.up, List.map_map]
 refine List.map_congr_left fun b _ => ?_
 show (Lib.upperB b).toNat = D.upB b.toNat
 have hi := Lib.isLowerB_int b
 unfold D.upB
 cases h : Lib.isLowerB b with
 | false =>
  rw [h] at hi
  simp only [eq_comm (a := false), Bool.and_eq_false_iff, decide_eq_false_iff_not] at hi
  rw [Lib.upperB_of_not b h, if_neg (by omega)]
 | true =>
  have h2 := Lib.upperB_int b h
  rw [h] at hi
  simp only [eq_comm (a := true), Bool.and_eq_true, decide_eq_true_eq] at hi
  rw [if_pos (by omega)]
  omega
theorem sb_of {l : List UInt8} {k : List Nat} (h : l.map (·.toNat) = k) : (⟨l.toArray⟩ : ByteArray) = D.sb k := by
 refine D.ns_inj ?_
 rw [D.ns_sb]
 ·exact h
 ·subst h
  intro b hb
  obtain ⟨u, _, rfl⟩ := List.mem_map.1 hb
  exact u.toNat_lt
theorem ascii_of {s : ByteArray} (h : ∀ b ∈ D.ns s, b < 128) : ∀ (j : Nat) (b : UInt8), s.data.toList[j]? = some b → b.toNat < 128 := fun j b hb => h _ (List.mem_map.2 ⟨b, List.mem_of_getElem? hb, rfl⟩)
theorem lower_any (s : ByteArray) (w : World) (hs : s.size ≤ 100) (h : ∀ b ∈ D.ns s, b < 128) : Calls Tryz.prog 196 #[.string s] w fun e w' => e = .returned (.string (D.sb (D.low (D.ns s)))) ∧ Below w.heap.size w w' := by
 refine Calls.mono (Any.strings_ToLower_ascii lays159 Builder_Extra_159 s w (by omega) (ascii_of h)) fun e w' ⟨he, hw⟩ => ⟨?_, hw⟩
 rw [he, sb_of (low_list s.data.toList)]
 rfl
theorem upper_any (s : ByteArray) (w : World) (hs : s.size ≤ 100) (h : ∀ b ∈ D.ns s, b < 128) : Calls Tryz.prog 198 #[.string s] w fun e w' => e = .returned (.string (D.sb (D.up (D.ns s)))) ∧ Below w.heap.size w w' := by
 refine Calls.mono (Any.strings_ToUpper_ascii lays158 Builder_Extra_158 s w (by omega) (ascii_of h)) fun e w' ⟨he, hw⟩ => ⟨?_, hw⟩
 rw [he, sb_of (up_list s.data.toList)]
 rfl
abbrev dash : ByteArray := ⟨#[45]⟩
theorem join_list : ∀ xs : List (List UInt8), (Lib.join xs [45]).map (·.toNat) = D.join (xs.map fun l => l.map (·.toNat))
 | [] => rfl
 | [x] => by rw [Lib.join_one]; rfl
 | x :: y :: r => by
  have h := join_list (y :: r)
  have e : Lib.join (x :: y :: r) [45] = x ++ 45 :: Lib.join (y :: r) [45] := by
   rw [Lib.join_cons, Lib.join_cons]
   simp [Lib.joinTail]
  rw [e, List.map_append, List.map_cons, h]
  rfl
theorem join_any (bk c : Nat) (xs : List ByteArray) (w : World) (hcells : ∀ (j : Nat) x, xs[j]? = some x → w.cell? ⟨bk, 0 + j, none⟩ = some (.string x)) (hbk : bk < w.heap.size) (hN : xs.length ≤ 100) (hcap : xs.length ≤ c) (hlen : (D.join (xs.map D.ns)).length ≤ 100) :
  Calls Tryz.prog 200 #[.slice (some ⟨bk, 0, none⟩) xs.length c, .string dash] w fun e w' => e = .returned (.string (D.sb (D.join (xs.map D.ns)))) ∧ Below w.heap.size w w' := by
 have hj : (Lib.join (xs.map (·.data.toList)) [45]).map (·.toNat) = D.join (xs.map D.ns) := by
  rw [join_list, List.map_map]; rfl
 have hl : (Lib.join (xs.map (·.data.toList)) [45]).length ≤ 140737488355328 := by
  have := congrArg List.length hj
  rw [List.length_map] at this
  omega
 refine Calls.mono (Any.strings_Join lays156 Builder_Extra_156 bk 0 c xs dash w hcells hbk (by omega) hcap hl) fun e w' ⟨he, hw⟩ => ⟨?_, hw⟩
 rw [he, ← sb_of hj]
theorem join_none (A : Option Addr) (c : Nat) (w : World) :
  Calls Tryz.prog 200 #[.slice A 0 c, .string dash] w fun e w' => e = .returned (.string (D.sb [])) ∧ Below w.heap.size w w' :=
 Calls.mono (Any.strings_Join_none lays156 Builder_Extra_156 A c dash w) fun e w' ⟨he, hw⟩ => ⟨he, hw ▸ Below.refl _ _⟩

theorem idx_cut (s : ByteArray) : (Lib.indexB s dash = -1 ∧ D.cutM (D.ns s) = false) ∨ ∃ i : Nat, Lib.indexB s dash = i ∧ i < s.size ∧ D.cutM (D.ns s) = true ∧ D.cutP (D.ns s) = (D.ns s).take i ∧ D.cutR (D.ns s) = (D.ns s).drop (i + 1) := by
 have e : Lib.indexB s dash = Lib.indexByte s.data.toList 45 := by
  exact Lib.one s dash rfl
 have hns : ∀ k : Nat, (D.ns s)[k]? = some 45 ↔ s.data.toList[k]? = some 45 := by
  intro k
  simp only [D.ns, List.getElem?_map]
  cases h : s.data.toList[k]? with
  | none => simp
  | some b =>
   simp only [Option.map_some, Option.some.injEq]
   constructor
   ·intro h; exact UInt8.toNat_inj.1 h
   ·rintro rfl; rfl
 rw [e]
 have hge := Lib.indexByte_ge s.data.toList 45
 by_cases h : Lib.indexByte s.data.toList 45 = -1
 ·refine .inl ⟨h, D.cutM_no fun i hi hc => Lib.indexByte_none h i ((hns i).1 hc)⟩
 ·obtain ⟨i, hi⟩ : ∃ i : Nat, Lib.indexByte s.data.toList 45 = i := ⟨(Lib.indexByte s.data.toList 45).toNat, by omega⟩
  obtain ⟨h1, h2⟩ := Lib.indexByte_some hi
  obtain ⟨c1, c2, c3⟩ := D.cut_at (t := D.ns s) (k := i) ((hns i).2 h1) (fun (j : Nat) hj hc => h2 j hj ((hns j).1 hc))
  refine .inr ⟨i, hi, ?_, c3, c1, c2⟩
  have := (List.getElem?_eq_some_iff.1 h1).1
  simpa using this
theorem ns_take (s : ByteArray) (k : Nat) : D.ns (s.extract 0 k) = (D.ns s).take k := by
 simp only [D.ns]
 rw [Lib.extract_from_zero, List.map_take]
theorem ns_drop (s : ByteArray) (k : Nat) : D.ns (s.extract k s.size) = (D.ns s).drop k := by
 simp only [D.ns]
 rw [Lib.extract_to_end, List.map_drop]
theorem spn_split : ∀ (k : Nat) (s : ByteArray), (Lib.splitB dash 0 k s).map D.ns = D.spn k (D.ns s)
 | 0, s => rfl
 | k + 1, s => by
  rcases idx_cut s with ⟨h, hm⟩ | ⟨i, h, hi, hm, hp, hr⟩
  ·rw [Lib.splitB_miss _ _ _ _ h, D.spn, hm]; rfl
  ·rw [Lib.splitB_hit _ _ _ _ i h, D.spn, hm, if_pos rfl, hp, hr, List.map_cons, spn_split k, Nat.add_zero, ns_take]
   have : dash.size = 1 := rfl
   rw [this, ns_drop]
theorem split_any (s : ByteArray) (w : World) (hs : s.size ≤ 100) :
  Calls Tryz.prog 194 #[.string s, .string dash, .int .i64 4] w fun e w' => ∃ (xs : List ByteArray) (N : Nat), xs.map D.ns = D.spn 3 (D.ns s) ∧ xs.length ≤ N ∧ N ≤ 4 ∧ e = .returned (.slice (some ⟨w.heap.size, 0, none⟩) xs.length N) ∧ w' = w.alloc (.cells (Lib.cellsOf xs N) 9) := by
 have hi9 : (Tryz.prog.info? 9).map (fun i => (i.zero, i.size, i.bytes)) = some (some (.string ByteArray.empty), 1, 16) := by kernel_rfl
 have hC : Calls Tryz.prog 226 #[.string s, .string dash] w fun e w' => e = .returned (.int .i64 (Lib.countB s dash)) ∧ w' = w := by
  refine Calls.mono (Any.strings_Count_one { lays147 with } s 45 w) fun e w' ⟨he, hw⟩ => ⟨?_, hw⟩
  rw [he]
  show _ = Ending.returned (Value.int .i64 ((Lib.count s.data.toList [45] : Nat) : Int))
  rw [Lib.count_one]
  rfl
 have hI : ∀ (x : ByteArray) (c : Array Value), x.size ≤ s.size → Calls Tryz.prog 227 #[.string x, .string dash] (w.alloc (.cells c 9)) fun e w' => e = .returned (.int .i64 (Lib.indexB x dash)) ∧ w' = w.alloc (.cells c 9) := by
  intro x c _
  refine Calls.mono (Any.strings_Index_one { lays147 with } x 45 _) fun e w' ⟨he, hw⟩ => ⟨?_, hw⟩
  rw [he]
  have := Lib.one x dash rfl
  rw [this]
  rfl
 have c := Any.strings_genSplit_core { lays147 with } hi9 s dash 0 (4 : Int) (min 4 (s.size + 1)) w (by omega) (by decide) (Nat.zero_le _) hI hC (by decide) (by decide) (by rw [if_neg (by decide)]; omega)
 have hlen : (Lib.splitB dash 0 (min 4 (s.size + 1) - 1) s).length ≤ min 4 (s.size + 1) := by
  have := Lib.splitB_length_le dash 0 (min 4 (s.size + 1) - 1) s
  omega
 have hsp : (Lib.splitB dash 0 (min 4 (s.size + 1) - 1) s).map D.ns = D.spn 3 (D.ns s) := by
  rw [spn_split]
  by_cases h : 3 ≤ s.size
  ·rw [show min 4 (s.size + 1) - 1 = 3 by omega]
  ·have := D.spn_more s.size (D.ns s) (by rw [D.ns_len]; exact Nat.le_refl _) (3 - s.size)
   rw [show s.size + (3 - s.size) = 3 by omega] at this
   rw [show min 4 (s.size + 1) - 1 = s.size by omega, this]
 have c' : Calls Tryz.prog 207 #[.string s, .string dash, .int .i64 0, .int .i64 4] w fun e w' => e = .returned (.slice (some ⟨w.heap.size, 0, none⟩) (Lib.splitB dash 0 (min 4 (s.size + 1) - 1) s).length (min 4 (s.size + 1))) ∧ w' = w.alloc (.cells (Lib.cellsOf (Lib.splitB dash 0 (min 4 (s.size + 1) - 1) s) (min 4 (s.size + 1))) 9) := c
 clear c hI hC
 go_enter Tryz.func194, Tryz.ntmps194
 go_wp2_with (go_at_call 207; (with_reducible refine Calls.mono c' ?_); rintro e w' ⟨rfl, rfl⟩)
 go_ret
 exact ⟨_, _, hsp, hlen, by omega, rfl, rfl⟩

theorem hd0_at : ∀ {l : List Nat} {k : Nat}, l[k]? = some 0 → (∀ i : Nat, i < k → l[i]? ≠ some 0) → D.hd0 l = l.take k ∧ k < l.length
 | [], k, h, _ => by simp at h
 | c :: t, 0, h, _ => by
  simp at h
  subst h
  simp [D.hd0]
 | c :: t, k + 1, h, hn => by
  have hc : c ≠ 0 := fun e => hn 0 (by omega) (by simp [e])
  obtain ⟨h1, h2⟩ := hd0_at (l := t) (k := k) (by simpa using h) (fun i hi => by have := hn (i + 1) (by omega); simpa using this)
  refine ⟨?_, by simp; omega⟩
  rw [List.take_succ_cons, ← h1]
  simp [D.hd0, hc]
theorem hd0_no {l : List Nat} (h : ∀ i : Nat, l[i]? ≠ some 0) : D.hd0 l = l := by
 induction l with
 | nil => rfl
 | cons c t ih =>
  have hc : c ≠ 0 := fun e => h 0 (by simp [e])
  have := ih (fun i => by have := h (i + 1); simpa using this)
  simp only [D.hd0] at this ⊢
  rw [List.takeWhile_cons_of_pos (by simpa using hc), this]
set_option maxRecDepth 100000 in
theorem cut0_any (a : Addr) (n c b2 d : Nat) (l : List Nat) (w : World) (hn : l.length = n) (hl : ∀ b ∈ l, b < 256) (hc : ∀ j u, (bys l)[j]? = some u → w.cell? (a.add j) = some u) (hcap : n ≤ c) (hs : n ≤ 100) (h2 : w.cell? ⟨b2, 0, none⟩ = some (.int .u8 0)) :
  Calls Tryz.prog 193 #[.slice (some a) n c, .slice (some ⟨b2, 0, none⟩) 1 d] w fun e w' => ∃ v2 v3, e = .returned (.tuple #[.slice (some a) (D.hd0 l).length c, v2, v3]) ∧ ∃ q, w' = w.drewN q := by
 have hx : (l.map fun b : Nat => (b : Int)).length = n := by simpa using hn
 have hcx : ∀ i, i < n → w.cell? (a.add i) = some (.int .u8 ((l.map fun b : Nat => (b : Int)).getD i 0)) := fun i hi => by
  refine hc i _ ?_
  simp [bys, List.getD, List.getElem?_eq_getElem (show i < l.length by omega)]
 have hidx := Any.bytes_Index_one_at lays185 a n c b2 0 d (l.map fun b : Nat => (b : Int)) 0 w hx hcx h2
 have hz : (0 : Int).toNat.toUInt8 = 0 := rfl
 rw [hz] at hidx
 have hb : Lib.bytesOf (l.map fun b : Nat => (b : Int)) = l.map UInt8.ofNat := by simp [Lib.bytesOf]
 rw [hb] at hidx
 have hat : ∀ k : Nat, (l.map UInt8.ofNat)[k]? = some 0 ↔ l[k]? = some 0 := by
  intro k
  rw [List.getElem?_map]
  cases h : l[k]? with
  | none => simp
  | some b =>
   have hb := hl b (List.mem_of_getElem? h)
   simp only [Option.map_some, Option.some.injEq]
   constructor
   ·intro h
    have := congrArg UInt8.toNat h
    simpa [Nat.mod_eq_of_lt hb] using this
   ·rintro rfl; rfl
 obtain ⟨i, hi⟩ : ∃ i, Lib.indexByte (l.map UInt8.ofNat) 0 = i := ⟨_, rfl⟩
 have hge := Lib.indexByte_ge (l.map UInt8.ofNat) 0
 rw [hi] at hidx hge
 have key : (i = -1 ∧ D.hd0 l = l) ∨ ∃ k : Nat, i = k ∧ D.hd0 l = l.take k ∧ k < l.length := by
  by_cases h : i = -1
  ·subst h
   exact .inl ⟨rfl, hd0_no fun k hk => Lib.indexByte_none hi k ((hat k).2 hk)⟩
  ·obtain ⟨k, rfl⟩ : ∃ k : Nat, i = k := ⟨i.toNat, by omega⟩
   obtain ⟨h1, h2⟩ := Lib.indexByte_some hi
   exact .inr ⟨k, rfl, hd0_at ((hat k).1 h1) (fun (j : Nat) hj hc => h2 j hj ((hat j).2 hc))⟩
 refine Calls.mono (Any.bytes_Cut_of laysSlT4 (some a) (some ⟨b2, 0, none⟩) n c 1 d i w hcap (by omega) ?_ (by omega) (Calls.mono hidx fun e w' ⟨he, hw⟩ => ⟨he, 0, hw⟩)) fun e w' ⟨he, hw⟩ => ?_
 ·intro h0
  rcases key with ⟨rfl, _⟩ | ⟨k, rfl, _, hk⟩ <;> omega
 ·rcases key with ⟨rfl, e1⟩ | ⟨k, rfl, e1, hk⟩
  ·refine ⟨.slice none 0 0, .bool false, ?_, hw⟩
   rw [he, Lib.cutV, if_neg (by decide), e1, hn]
  ·refine ⟨Lib.fromV (some a) n c (k + 1), .bool true, ?_, hw⟩
   rw [he, Lib.cutV, if_pos (by omega), e1, List.length_take, Nat.min_eq_left (by omega)]
   rfl
end Go.Proofs.YtjlaffgbmcpldaaGreatDoor
namespace Go.Proofs.YtjlaffgbmcpldaaGreatDoor
open Go.RowKit
attribute [local go_sem ↓] Go.wp_at_zero Go.wp_at_succ

structure Cnt (f : Nat → Bool) (t : List Nat) (k n : Nat) : Prop where
 out : (t.take k).countP f = n
theorem cnt_le {f : Nat → Bool} {t : List Nat} {k n : Nat} (h : Cnt f t k n) : n ≤ k := by
 have h1 := h.out
 have h2 := List.countP_le_length (p := f) (l := t.take k)
 have h3 := List.length_take_le k t
 omega
theorem cnt_all {f : Nat → Bool} {t : List Nat} {k n : Nat} (h : Cnt f t k n) (hk : t.length ≤ k) : (n = t.length) ↔ t.all f = true := by
 have h1 := h.out
 rw [List.take_of_length_le hk] at h1
 rw [← h1, List.countP_eq_length, List.all_eq_true]
def kind (t : List Nat) : Nat := if D.allL t then 1 else if D.allD t then 2 else 0
theorem cut_any (s : ByteArray) (w : World) (hs : s.size ≤ 100) : Calls Tryz.prog 159 #[.string s] w fun e w' => e = .returned (.tuple #[.string (D.sb (D.cutP (D.ns s))), .string (D.sb (D.cutR (D.ns s))), .bool (D.cutM (D.ns s))]) ∧ ∃ q, w' = w.drewN q := by
 go_enter Tryz.func159, Tryz.ntmps159
 go_wp2
 go_loop [5] (fun i => ∃ k : Nat, k ≤ s.size ∧ i = .int .i64 k ∧ Kept (∀ j, j < k → (D.ns s)[j]? ≠ some 45)) (fun i => s.size - (intOf i).toNat)
 case atStart => exact ⟨0, Nat.zero_le _, rfl, ⟨fun j h => absurd h (by omega)⟩⟩
 case round =>
  obtain ⟨k, hk, rfl, HN⟩ := hrel
  by_cases hlt : k < s.size
  ·have hb := ns_at hlt
   by_cases hc : s[k].toNat = 45
   ·rw [hc] at hb
    obtain ⟨e1, e2, e3⟩ := D.cut_at hb HN.out
    have E1 : s.extract 0 k = D.sb (D.cutP (D.ns s)) := by rw [e1, ← ns_take, D.sb_ns]
    have E2 : s.extract (k + 1) s.size = D.sb (D.cutR (D.ns s)) := by rw [e2, ← ns_drop, D.sb_ns]
    have HE1 := Lib.hid E1
    have HE2 := Lib.hid E2
    have HE3 := Lib.hid e3
    have hc' : ((s[k].toNat : Int) == 45) = true := by rw [beq_iff_eq]; omega
    clear hb e1 e2 e3 E1 E2 hc HN
    have i1 : IntKind.i64.wrap ((k : Int) + 1) = (k : Int) + 1 := IntWalk.i64_in _ (by omega)
    have i2 : (k : Int) + 1 ≤ (s.size : Int) := by omega
    go_wp2_with fail
    go_quiet (fail)
    go_wp2
    refine bodyPost_ret (v := .tuple #[.string (s.extract 0 k), .string (s.extract (k + 1) s.size), .bool true]) (by simp [results, Tryz.results159, go_sem]) rfl ⟨?_, _, rfl⟩
    rw [HE1.out, HE2.out, HE3.out]
   ·have hc' : ((s[k].toNat : Int) == 45) = false := by rw [beq_eq_false_iff_ne]; omega
    have HN' : Kept (∀ j, j < k + 1 → (D.ns s)[j]? ≠ some 45) := ⟨fun j hj h => by
     by_cases e : j = k
     ·subst e; rw [hb] at h; injection h with h; exact hc h
     ·exact HN.out j (by omega) h⟩
    clear hb hc HN
    go_wp2
    go_round
    case rel => exact ⟨k + 1, by omega, by go_num, HN'⟩
    case measure => simp [intOf]; omega
  ·have hm : D.cutM (D.ns s) = false := D.cutM_no fun i hi => HN.out i (by rw [D.ns_len] at hi; omega)
   obtain ⟨e1, e2⟩ := D.cut_none _ hm
   have HE1 := Lib.hid e1
   have HE2 := Lib.hid e2
   have HE3 := Lib.hid hm
   clear e1 e2 hm HN
   go_wp2
   refine bodyPost_ret (v := .tuple #[.string s, .string ⟨#[]⟩, .bool false]) (by simp [results, Tryz.results159, go_sem]) rfl ⟨?_, 0, rfl⟩
   rw [HE1.out, HE2.out, HE3.out, D.sb_ns]
   rfl

theorem str_run (W : World) (A : Option Addr) (n c : Nat) (l : List Nat) (h : Row W A n (bys l)) (hl : ∀ b ∈ l, b < 256) :
  (convert 210 9 (.slice A n c)).run Tryz.prog W = .ok (.string (D.sb l)) W := by
 have hlen := h.len
 rw [bys_len] at hlen
 rcases A with _ | ad
 ·have : l = [] := by
   rcases Nat.eq_zero_or_pos n with h0 | h0
   ·exact List.eq_nil_of_length_eq_zero (by omega)
   ·obtain ⟨ad, e, _⟩ := h.tow h0
    cases e
  subst this
  have : n = 0 := by simpa using hlen.symm
  subst this
  exact Lib.run_convert_nil_bytes W _ _ 5 c Tryz.underlying210 Tryz.underlying5 Tryz.underlying9
 ·have hr := run_convert_bytes_back (P := Tryz.prog) W 210 9 5 ad c (l.map UInt8.ofNat) Tryz.underlying210 Tryz.underlying5 Tryz.underlying9 (fun j hj => by
   have hj' : j < l.length := by simpa using hj
   have hq : l[j]? = some l[j] := List.getElem?_eq_getElem hj'
   obtain ⟨ad', e, hc⟩ := h.cell (bys_at hq)
   injection e with e
   subst e
   rw [hc]
   have := hl _ (List.getElem_mem hj')
   simp
   omega)
  rw [List.length_map, hlen] at hr
  exact hr
end Go.Proofs.YtjlaffgbmcpldaaGreatDoor
