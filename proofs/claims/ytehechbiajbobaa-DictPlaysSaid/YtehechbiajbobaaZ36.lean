/-
  MERGED (a claim has at most 60 files): DPRd, DPlaysW.
-/
import Derived.Test.YtehechbiajbobaaZ33
import Derived.Test.YtehechbiajbobaaZ34
import Derived.Test.YtehechbiajbobaaZ35
import Derived.Deep.RegionHeld3
import Derived.Deep.CutRange
import Derived.Deep.CutBlock
/-
  DictPlays: a round. (Out of dpcut.py.)
-/
namespace Go.Proofs.Ytehechbiajbobaa
open Go.RowKit
set_option linter.unusedVariables false
set_option linter.unusedSimpArgs false
set_option maxRecDepth 100000
set_option maxHeartbeats 64000000 in
theorem dp_round {R : Act → World → Prop} {Q' : Exit → Act → World → Prop} {w1 wr : World} {d m g7 i g n gg og cap : Nat} {room : Int} {v5 : Value} {L : List Tm} {A5 : Option Addr} {c5 : Nat} {kd an kx ky kz sk pk qk : Int} {sa sb sc pa pb pc qa qb qc : ByteArray} {f0 f1 f2 f3 f4 f6 f8 f9 f10 f11 f12 f13 f14 f15 f16 f17 f18 f19 f20 f21 f22 f23 f24 f25 f26 f27 f28 f29 f30 f31 f32 f33 f34 f35 f36 f37 f38 f39 f40 f41 f42 f43 f44 f45 f46 f47 f48 f49 f50 f51 f52 f53 f54 f55 f56 f57 f58 f59 f60 f61 f62 f63 f64 f65 f66 f70 f71 f72 f73 f74 f75 f76 f77 f78 f79 f80 f81 f82 f83 f84 f85 f86 f87 f88 f89 f90 f91 f92 f93 f94 f95 f96 f97 f98 f99 f100 f101 f102 f103 f104 f105 f106 f107 f108 f109 f110 f111 f112 f113 f114 f115 f116 f117 f118 f119 f120 f121 f122 f123 f124 f125 f126 f127 f128 f129 f130 f131 f132 f133 f134 f135 f136 f137 f138 f139 f140 f141 f142 f143 f144 f145 f146 f147 f148 f149 f150 f151 f152 f153 f154 f155 f156 f157 f158 f159 f160 f161 f162 f163 f164 f165 f166 f167 f168 f169 f170 f171 f172 f173 f174 f175 f176 f177 f178 f179 f180 f181 f182 f183 f184 f185 f186 f187 f188 f189 f190 f191 f192 f193 f194 f195 f196 f197 f198 f199 f200 f201 f202 f203 f204 f205 f206 f207 f208 f209 f210 f211 f212 f213 f214 f215 f216 f217 f218 f219 f220 f221 f222 f223 f224 f225 f226 f227 f228 f229 f230 f231 f232 f233 f234 f235 f236 f237 f238 f239 f240 f241 f242 f243 f244 f245 f246 f247 f248 f249 f250 f251 f252 f253 f254 f255 f256 f257 f258 f259 f260 f261 f262 f263 f264 f265 f266 f267 f268 f269 f270 f271 f272 f273 f274 f275 f276 f277 f278 f279 f280 f281 f282 f283 f284 f285 f286 f287 f288 f289 f290 f291 f292 f293 f294 f295 f296 f297 f298 f299 f300 f301 f302 f303 f304 f305 f306 f307 : Value}
    (hin : (i : Int) < (n : Int)) (hiz : (0 : Int) ≤ (i : Int)) (q0 : wr.cell? ⟨gg, og + i * 17, none⟩ = some (.int .u8 kd)) (q1 : wr.cell? ⟨gg, og + i * 17 + 1, none⟩ = some (.int .i64 an)) (q2 : wr.cell? ⟨gg, og + i * 17 + 2, none⟩ = some (.int .i64 sk)) (q3 : wr.cell? ⟨gg, og + i * 17 + 3, none⟩ = some (.string sa)) (q4 : wr.cell? ⟨gg, og + i * 17 + 4, none⟩ = some (.string sb)) (q5 : wr.cell? ⟨gg, og + i * 17 + 5, none⟩ = some (.string sc)) (q6 : wr.cell? ⟨gg, og + i * 17 + 6, none⟩ = some (.int .i64 pk)) (q7 : wr.cell? ⟨gg, og + i * 17 + 7, none⟩ = some (.string pa)) (q8 : wr.cell? ⟨gg, og + i * 17 + 8, none⟩ = some (.string pb)) (q9 : wr.cell? ⟨gg, og + i * 17 + 9, none⟩ = some (.string pc)) (q10 : wr.cell? ⟨gg, og + i * 17 + 10, none⟩ = some (.int .i64 qk)) (q11 : wr.cell? ⟨gg, og + i * 17 + 11, none⟩ = some (.string qa)) (q12 : wr.cell? ⟨gg, og + i * 17 + 12, none⟩ = some (.string qb)) (q13 : wr.cell? ⟨gg, og + i * 17 + 13, none⟩ = some (.string qc)) (q14 : wr.cell? ⟨gg, og + i * 17 + 14, none⟩ = some (.int .i64 kx)) (q15 : wr.cell? ⟨gg, og + i * 17 + 15, none⟩ = some (.int .i64 ky)) (q16 : wr.cell? ⟨gg, og + i * 17 + 16, none⟩ = some (.int .i64 kz))
    (hK : Px w1 d m g7 room v5 L (.slice A5 L.length c5) [] wr) (hts : -9223372036854775808 ≤ sk ∧ sk ≤ 9223372036854775807) (htp : -9223372036854775808 ≤ pk ∧ pk ≤ 9223372036854775807) (hto : -9223372036854775808 ≤ qk ∧ qk ≤ 9223372036854775807) (hkd : 0 ≤ kd ∧ kd ≤ 255) (HNB : Hid (i64b an ∧ i64b kx ∧ i64b ky ∧ i64b kz)) (HIG : Hid (i + 1 + g = n)) (HI : Hid (i < 40)) (HG : Hid (Gok L)) (HLL : Hid (L.length ≤ 3 * i))
    (HRK : Hid (∀ (e4 e9 e10 e11 e12 e13 e14 e15 e16 e17 e18 e19 e20 e21 e22 e23 e24 e25 e26 e27 e28 e29 e30 e31 e32 e33 e69 e70 e71 e72 e73 e74 e75 e76 e77 e78 e79 e80 e81 e82 e83 e84 e85 e86 e87 e88 e89 e90 e91 e92 e93 e94 e95 e96 e97 e98 e99 e100 e101 e102 e103 e104 e105 e106 e107 e108 e109 e110 e111 e112 e113 e114 e115 e116 e117 e118 e119 e120 e121 e122 e123 e124 e125 e126 e127 e128 e129 e130 e131 e132 e133 e134 e135 e136 e137 e138 e139 e140 e141 e142 e143 e144 e145 e146 e147 e148 e149 e150 e151 e152 e153 e154 e155 e156 e157 e158 e159 e160 e161 e162 e163 e164 e165 e166 e167 e168 e169 e170 e171 e172 e173 e174 e175 e176 e177 e178 e179 e180 e181 e182 e183 e184 e185 e186 e187 e188 e189 e190 e191 e192 e193 e194 e195 e196 e197 e198 e199 e200 e201 e202 e203 e204 e205 e206 e207 e208 e209 e210 e211 e212 e213 e214 e215 e216 e217 e218 e219 e220 e221 e222 e223 e224 e225 e226 e227 e228 e229 e230 e231 e232 e233 e234 e235 e236 e237 e238 e239 e240 e241 e242 e243 e244 e245 e246 e247 e248 e249 e250 e251 e252 e253 e254 e255 e256 e257 e258 e259 e260 e261 e262 e263 e264 e265 e266 e267 e268 e269 e270 e271 e272 e273 e274 e275 e276 e277 e278 e279 e280 e281 e282 e283 e284 e285 e286 e287 e288 e289 e290 e291 e292 e293 e294 e295 e296 e297 e298 e299 e300 e301 e302 e303 e304 e305 e306 e307 : Value) (W : World), PlI w1 d m g7 room n g e69 W → R ⟨(f0 :: f1 :: f2 :: f3 :: e4 :: .pointer (some ⟨d, 0, none⟩) :: f6 :: .pointer (some ⟨g7, 0, none⟩) :: f8 :: e9 :: e10 :: e11 :: e12 :: e13 :: e14 :: e15 :: e16 :: e17 :: e18 :: e19 :: e20 :: e21 :: e22 :: e23 :: e24 :: e25 :: e26 :: e27 :: e28 :: e29 :: e30 :: e31 :: e32 :: e33 :: f34 :: f35 :: f36 :: f37 :: f38 :: f39 :: f40 :: f41 :: f42 :: f43 :: f44 :: f45 :: f46 :: f47 :: f48 :: f49 :: f50 :: f51 :: f52 :: f53 :: f54 :: f55 :: f56 :: f57 :: f58 :: f59 :: f60 :: f61 :: f62 :: f63 :: f64 :: f65 :: f66 :: .slice (some ⟨gg, og, none⟩) n cap :: .int .i64 n :: e69 :: e70 :: e71 :: e72 :: e73 :: e74 :: e75 :: e76 :: e77 :: e78 :: e79 :: e80 :: e81 :: e82 :: e83 :: e84 :: e85 :: e86 :: e87 :: e88 :: e89 :: e90 :: e91 :: e92 :: e93 :: e94 :: e95 :: e96 :: e97 :: e98 :: e99 :: e100 :: e101 :: e102 :: e103 :: e104 :: e105 :: e106 :: e107 :: e108 :: e109 :: e110 :: e111 :: e112 :: e113 :: e114 :: e115 :: e116 :: e117 :: e118 :: e119 :: e120 :: e121 :: e122 :: e123 :: e124 :: e125 :: e126 :: e127 :: e128 :: e129 :: e130 :: e131 :: e132 :: e133 :: e134 :: e135 :: e136 :: e137 :: e138 :: e139 :: e140 :: e141 :: e142 :: e143 :: e144 :: e145 :: e146 :: e147 :: e148 :: e149 :: e150 :: e151 :: e152 :: e153 :: e154 :: e155 :: e156 :: e157 :: e158 :: e159 :: e160 :: e161 :: e162 :: e163 :: e164 :: e165 :: e166 :: e167 :: e168 :: e169 :: e170 :: e171 :: e172 :: e173 :: e174 :: e175 :: e176 :: e177 :: e178 :: e179 :: e180 :: e181 :: e182 :: e183 :: e184 :: e185 :: e186 :: e187 :: e188 :: e189 :: e190 :: e191 :: e192 :: e193 :: e194 :: e195 :: e196 :: e197 :: e198 :: e199 :: e200 :: e201 :: e202 :: e203 :: e204 :: e205 :: e206 :: e207 :: e208 :: e209 :: e210 :: e211 :: e212 :: e213 :: e214 :: e215 :: e216 :: e217 :: e218 :: e219 :: e220 :: e221 :: e222 :: e223 :: e224 :: e225 :: e226 :: e227 :: e228 :: e229 :: e230 :: e231 :: e232 :: e233 :: e234 :: e235 :: e236 :: e237 :: e238 :: e239 :: e240 :: e241 :: e242 :: e243 :: e244 :: e245 :: e246 :: e247 :: e248 :: e249 :: e250 :: e251 :: e252 :: e253 :: e254 :: e255 :: e256 :: e257 :: e258 :: e259 :: e260 :: e261 :: e262 :: e263 :: e264 :: e265 :: e266 :: e267 :: e268 :: e269 :: e270 :: e271 :: e272 :: e273 :: e274 :: e275 :: e276 :: e277 :: e278 :: e279 :: e280 :: e281 :: e282 :: e283 :: e284 :: e285 :: e286 :: e287 :: e288 :: e289 :: e290 :: e291 :: e292 :: e293 :: e294 :: e295 :: e296 :: e297 :: e298 :: e299 :: e300 :: e301 :: e302 :: e303 :: e304 :: e305 :: e306 :: e307 :: []).toArray, []⟩ W)) (HRQ : Hid (∀ (e9 e10 e11 e12 e13 e14 e15 e16 e17 e18 e19 e20 e21 e22 e23 e24 e25 e26 e27 e28 e29 e30 e31 e32 e33 e69 e70 e71 e72 e73 e74 e75 e76 e77 e78 e79 e80 e81 e82 e83 e84 e85 e86 e87 e88 e89 e90 e91 e92 e93 e94 e95 e96 e97 e98 e99 e100 e101 e102 e103 e104 e105 e106 e107 e108 e109 e110 e111 e112 e113 e114 e115 e116 e117 e118 e119 e120 e121 e122 e123 e124 e125 e126 e127 e128 e129 e130 e131 e132 e133 e134 e135 e136 e137 e138 e139 e140 e141 e142 e143 e144 e145 e146 e147 e148 e149 e150 e151 e152 e153 e154 e155 e156 e157 e158 e159 e160 e161 e162 e163 e164 e165 e166 e167 e168 e169 e170 e171 e172 e173 e174 e175 e176 e177 e178 e179 e180 e181 e182 e183 e184 e185 e186 e187 e188 e189 e190 e191 e192 e193 e194 e195 e196 e197 e198 e199 e200 e201 e202 e203 e204 e205 e206 e207 e208 e209 e210 e211 e212 e213 e214 e215 e216 e217 e218 e219 e220 e221 e222 e223 e224 e225 e226 e227 e228 e229 e230 e231 e232 e233 e234 e235 e236 e237 e238 e239 e240 e241 e242 e243 e244 e245 e246 e247 e248 e249 e250 e251 e252 e253 e254 e255 e256 e257 e258 e259 e260 e261 e262 e263 e264 e265 e266 e267 e268 e269 e270 e271 e272 e273 e274 e275 e276 e277 e278 e279 e280 e281 e282 e283 e284 e285 e286 e287 e288 e289 e290 e291 e292 e293 e294 e295 e296 e297 e298 e299 e300 e301 e302 e303 e304 e305 e306 e307 : Value) (W : World), Below w1.heap.size w1 W → Q' .ret ⟨(f0 :: f1 :: f2 :: f3 :: .bool true :: .pointer (some ⟨d, 0, none⟩) :: f6 :: .pointer (some ⟨g7, 0, none⟩) :: f8 :: e9 :: e10 :: e11 :: e12 :: e13 :: e14 :: e15 :: e16 :: e17 :: e18 :: e19 :: e20 :: e21 :: e22 :: e23 :: e24 :: e25 :: e26 :: e27 :: e28 :: e29 :: e30 :: e31 :: e32 :: e33 :: f34 :: f35 :: f36 :: f37 :: f38 :: f39 :: f40 :: f41 :: f42 :: f43 :: f44 :: f45 :: f46 :: f47 :: f48 :: f49 :: f50 :: f51 :: f52 :: f53 :: f54 :: f55 :: f56 :: f57 :: f58 :: f59 :: f60 :: f61 :: f62 :: f63 :: f64 :: f65 :: f66 :: .slice (some ⟨gg, og, none⟩) n cap :: .int .i64 n :: e69 :: e70 :: e71 :: e72 :: e73 :: e74 :: e75 :: e76 :: e77 :: e78 :: e79 :: e80 :: e81 :: e82 :: e83 :: e84 :: e85 :: e86 :: e87 :: e88 :: e89 :: e90 :: e91 :: e92 :: e93 :: e94 :: e95 :: e96 :: e97 :: e98 :: e99 :: e100 :: e101 :: e102 :: e103 :: e104 :: e105 :: e106 :: e107 :: e108 :: e109 :: e110 :: e111 :: e112 :: e113 :: e114 :: e115 :: e116 :: e117 :: e118 :: e119 :: e120 :: e121 :: e122 :: e123 :: e124 :: e125 :: e126 :: e127 :: e128 :: e129 :: e130 :: e131 :: e132 :: e133 :: e134 :: e135 :: e136 :: e137 :: e138 :: e139 :: e140 :: e141 :: e142 :: e143 :: e144 :: e145 :: e146 :: e147 :: e148 :: e149 :: e150 :: e151 :: e152 :: e153 :: e154 :: e155 :: e156 :: e157 :: e158 :: e159 :: e160 :: e161 :: e162 :: e163 :: e164 :: e165 :: e166 :: e167 :: e168 :: e169 :: e170 :: e171 :: e172 :: e173 :: e174 :: e175 :: e176 :: e177 :: e178 :: e179 :: e180 :: e181 :: e182 :: e183 :: e184 :: e185 :: e186 :: e187 :: e188 :: e189 :: e190 :: e191 :: e192 :: e193 :: e194 :: e195 :: e196 :: e197 :: e198 :: e199 :: e200 :: e201 :: e202 :: e203 :: e204 :: e205 :: e206 :: e207 :: e208 :: e209 :: e210 :: e211 :: e212 :: e213 :: e214 :: e215 :: e216 :: e217 :: e218 :: e219 :: e220 :: e221 :: e222 :: e223 :: e224 :: e225 :: e226 :: e227 :: e228 :: e229 :: e230 :: e231 :: e232 :: e233 :: e234 :: e235 :: e236 :: e237 :: e238 :: e239 :: e240 :: e241 :: e242 :: e243 :: e244 :: e245 :: e246 :: e247 :: e248 :: e249 :: e250 :: e251 :: e252 :: e253 :: e254 :: e255 :: e256 :: e257 :: e258 :: e259 :: e260 :: e261 :: e262 :: e263 :: e264 :: e265 :: e266 :: e267 :: e268 :: e269 :: e270 :: e271 :: e272 :: e273 :: e274 :: e275 :: e276 :: e277 :: e278 :: e279 :: e280 :: e281 :: e282 :: e283 :: e284 :: e285 :: e286 :: e287 :: e288 :: e289 :: e290 :: e291 :: e292 :: e293 :: e294 :: e295 :: e296 :: e297 :: e298 :: e299 :: e300 :: e301 :: e302 :: e303 :: e304 :: e305 :: e306 :: e307 :: []).toArray, []⟩ W)) :
    Code.wp Try.prog dpBody (Exit.then R Q') ⟨(f0 :: f1 :: f2 :: f3 :: f4 :: .pointer (some ⟨d, 0, none⟩) :: f6 :: .pointer (some ⟨g7, 0, none⟩) :: f8 :: f9 :: f10 :: f11 :: f12 :: f13 :: f14 :: f15 :: f16 :: f17 :: f18 :: f19 :: f20 :: f21 :: f22 :: f23 :: f24 :: f25 :: f26 :: f27 :: f28 :: f29 :: f30 :: f31 :: f32 :: f33 :: f34 :: f35 :: f36 :: f37 :: f38 :: f39 :: f40 :: f41 :: f42 :: f43 :: f44 :: f45 :: f46 :: f47 :: f48 :: f49 :: f50 :: f51 :: f52 :: f53 :: f54 :: f55 :: f56 :: f57 :: f58 :: f59 :: f60 :: f61 :: f62 :: f63 :: f64 :: f65 :: f66 :: .slice (some ⟨gg, og, none⟩) n cap :: .int .i64 n :: .int .i64 i :: f70 :: f71 :: f72 :: f73 :: f74 :: f75 :: f76 :: f77 :: f78 :: f79 :: f80 :: f81 :: f82 :: f83 :: f84 :: f85 :: f86 :: f87 :: f88 :: f89 :: f90 :: f91 :: f92 :: f93 :: f94 :: f95 :: f96 :: f97 :: f98 :: f99 :: f100 :: f101 :: f102 :: f103 :: f104 :: f105 :: f106 :: f107 :: f108 :: f109 :: f110 :: f111 :: f112 :: f113 :: f114 :: f115 :: f116 :: f117 :: f118 :: f119 :: f120 :: f121 :: f122 :: f123 :: f124 :: f125 :: f126 :: f127 :: f128 :: f129 :: f130 :: f131 :: f132 :: f133 :: f134 :: f135 :: f136 :: f137 :: f138 :: f139 :: f140 :: f141 :: f142 :: f143 :: f144 :: f145 :: f146 :: f147 :: f148 :: f149 :: f150 :: f151 :: f152 :: f153 :: f154 :: f155 :: f156 :: f157 :: f158 :: f159 :: f160 :: f161 :: f162 :: f163 :: f164 :: f165 :: f166 :: f167 :: f168 :: f169 :: f170 :: f171 :: f172 :: f173 :: f174 :: f175 :: f176 :: f177 :: f178 :: f179 :: f180 :: f181 :: f182 :: f183 :: f184 :: f185 :: f186 :: f187 :: f188 :: f189 :: f190 :: f191 :: f192 :: f193 :: f194 :: f195 :: f196 :: f197 :: f198 :: f199 :: f200 :: f201 :: f202 :: f203 :: f204 :: f205 :: f206 :: f207 :: f208 :: f209 :: f210 :: f211 :: f212 :: f213 :: f214 :: f215 :: f216 :: f217 :: f218 :: f219 :: f220 :: f221 :: f222 :: f223 :: f224 :: f225 :: f226 :: f227 :: f228 :: f229 :: f230 :: f231 :: f232 :: f233 :: f234 :: f235 :: f236 :: f237 :: f238 :: f239 :: f240 :: f241 :: f242 :: f243 :: f244 :: f245 :: f246 :: f247 :: f248 :: f249 :: f250 :: f251 :: f252 :: f253 :: f254 :: f255 :: f256 :: f257 :: f258 :: f259 :: f260 :: f261 :: f262 :: f263 :: f264 :: f265 :: f266 :: f267 :: f268 :: f269 :: f270 :: f271 :: f272 :: f273 :: f274 :: f275 :: f276 :: f277 :: f278 :: f279 :: f280 :: f281 :: f282 :: f283 :: f284 :: f285 :: f286 :: f287 :: f288 :: f289 :: f290 :: f291 :: f292 :: f293 :: f294 :: f295 :: f296 :: f297 :: f298 :: f299 :: f300 :: f301 :: f302 :: f303 :: f304 :: f305 :: f306 :: f307 :: []).toArray, []⟩ wr := by
  cases hs1 : shortD sa sb sc with
  | false => exact dp_s1 hin hiz q0 q1 q2 q3 q4 q5 q6 q7 q8 q9 q10 q11 q12 q13 q14 q15 q16 hK hts htp hto hkd HNB HIG HI HG HLL HRK HRQ hs1
  | true =>
    cases hs2 : shortD pa pb pc with
    | false => exact dp_s2 hin hiz q0 q1 q2 q3 q4 q5 q6 q7 q8 q9 q10 q11 q12 q13 q14 q15 q16 hK hts htp hto hkd HNB HIG HI HG HLL HRK HRQ hs1 hs2
    | true =>
      cases hs3 : shortD qa qb qc with
      | false => exact dp_s3 hin hiz q0 q1 q2 q3 q4 q5 q6 q7 q8 q9 q10 q11 q12 q13 q14 q15 q16 hK hts htp hto hkd HNB HIG HI HG HLL HRK HRQ hs1 hs2 hs3
      | true => exact dp_ok hin hiz q0 q1 q2 q3 q4 q5 q6 q7 q8 q9 q10 q11 q12 q13 q14 q15 q16 hK hts htp hto hkd HNB HIG HI HG HLL HRK HRQ hs1 hs2 hs3
end Go.Proofs.Ytehechbiajbobaa

/-
  DictPlays: the walk. (Out of dplays.py.)
-/
namespace Go.Proofs.Ytehechbiajbobaa
open Go.RowKit
set_option linter.unusedVariables false
set_option linter.unusedSimpArgs false
set_option maxRecDepth 100000

theorem dp_awake {w : World} : ∀ {W : World}, Below w.heap.size w W → Calls Try.prog 4 #[] W fun e w' => e = .returned (.bool true) ∧ Below w.heap.size w w' := fun {W} hb => (dawake_ok W).mono fun _ _ ⟨x, y⟩ => ⟨x, hb.trans (y.mono hb.size)⟩
set_option maxHeartbeats 8000000 in
theorem dp_many (room : Int) (A : Option Addr) (n cap : Nat) (w : World) (hzI : (40 : Int) < (n : Int)) : DpSaid room A n cap w := by
  have cA := @dp_awake w
  have hB0 : Below w.heap.size w w := Below.refl _ _
  unfold DpSaid
  go_enter Try.func3, Try.ntmps3
  go_wp2_with (first
    | (go_at_call 4; (with_reducible refine (cA hB0).mono ?_); rintro e w1 ⟨rfl, hB1⟩)
    | (go_at_call 4; (with_reducible refine (cA hB1).mono ?_); rintro e w2 ⟨rfl, hB2⟩))
  go_ret
  exact ⟨rfl, by assumption⟩
set_option maxHeartbeats 8000000 in
theorem dp_low (room : Int) (A : Option Addr) (n cap : Nat) (w : World) (hzI : ¬ (40 : Int) < (n : Int)) (hr1 : room < 1) : DpSaid room A n cap w := by
  have cA := @dp_awake w
  have hB0 : Below w.heap.size w w := Below.refl _ _
  have cN := fun W => dnew_bad room (.inl hr1) W
  unfold DpSaid
  go_enter Try.func3, Try.ntmps3
  go_wp2_with (first
    | (go_at_call 4; (with_reducible refine (cA hB0).mono ?_); rintro e w1 ⟨rfl, hB1⟩)
    | (go_at_call 5; (with_reducible refine (cN _).mono ?_); rintro e w2 ⟨rfl, rfl⟩))
  go_ret
  exact ⟨rfl, by assumption⟩
set_option maxHeartbeats 8000000 in
theorem dp_high (room : Int) (A : Option Addr) (n cap : Nat) (w : World) (hzI : ¬ (40 : Int) < (n : Int)) (hr1 : ¬ room < 1) (hr2 : 65536 < room) : DpSaid room A n cap w := by
  have cA := @dp_awake w
  have hB0 : Below w.heap.size w w := Below.refl _ _
  have cN := fun W => dnew_bad room (.inr hr2) W
  unfold DpSaid
  go_enter Try.func3, Try.ntmps3
  go_wp2_with (first
    | (go_at_call 4; (with_reducible refine (cA hB0).mono ?_); rintro e w1 ⟨rfl, hB1⟩)
    | (go_at_call 5; (with_reducible refine (cN _).mono ?_); rintro e w2 ⟨rfl, rfl⟩))
  go_ret
  exact ⟨rfl, by assumption⟩
set_option maxHeartbeats 64000000 in
theorem dplays_main (room : Int) (rb0 : -9223372036854775808 ≤ room) (rb1 : room ≤ 9223372036854775807) (l : List Da) (hl : ∀ t ∈ l, t.ok) (A : Option Addr) (cap : Nat) (hc : l.length ≤ cap) (hm : cap ≤ maxLen) (w : World) (hs : SlAt w A 17 (l.map Da.cells)) (hzz : ¬ 40 < l.length) (hr1 : ¬ room < 1) (hr2 : ¬ 65536 < room) :
    Calls Try.prog 3 #[.int .i64 room, .slice A l.length cap] w fun e w' => e = .returned (.bool true) ∧ Below w.heap.size w w' := by
  have cA : ∀ {W : World}, Below w.heap.size w W → Calls Try.prog 4 #[] W fun e w' => e = .returned (.bool true) ∧ Below w.heap.size w w' := fun {W} hb => (dawake_ok W).mono fun _ _ ⟨x, y⟩ => ⟨x, hb.trans (y.mono hb.size)⟩
  have hB0 : Below w.heap.size w w := Below.refl _ _
  have hz : ¬ 40 < l.length := hzz
  have hzI : ¬ (40 : Int) < (l.length : Int) := by omega
  obtain ⟨n, hn⟩ : ∃ n, n = l.length := ⟨_, rfl⟩
  have hn40 : n ≤ 40 := by omega
  have hel : ∀ i, i < n → ∃ r : Da, r.ok ∧ ∀ {W : World}, Below w.heap.size w W → ∃ g o, A = some ⟨g, o, none⟩ ∧ W.cell? ⟨g, o + i * 17, none⟩ = some (.int .u8 r.k) ∧ W.cell? ⟨g, o + i * 17 + 1, none⟩ = some (.int .i64 r.n) ∧ W.cell? ⟨g, o + i * 17 + 2, none⟩ = some (.int .i64 r.t.s.k) ∧ W.cell? ⟨g, o + i * 17 + 3, none⟩ = some (.string r.t.s.a) ∧ W.cell? ⟨g, o + i * 17 + 4, none⟩ = some (.string r.t.s.b) ∧ W.cell? ⟨g, o + i * 17 + 5, none⟩ = some (.string r.t.s.c) ∧ W.cell? ⟨g, o + i * 17 + 6, none⟩ = some (.int .i64 r.t.p.k) ∧ W.cell? ⟨g, o + i * 17 + 7, none⟩ = some (.string r.t.p.a) ∧ W.cell? ⟨g, o + i * 17 + 8, none⟩ = some (.string r.t.p.b) ∧ W.cell? ⟨g, o + i * 17 + 9, none⟩ = some (.string r.t.p.c) ∧ W.cell? ⟨g, o + i * 17 + 10, none⟩ = some (.int .i64 r.t.o.k) ∧ W.cell? ⟨g, o + i * 17 + 11, none⟩ = some (.string r.t.o.a) ∧ W.cell? ⟨g, o + i * 17 + 12, none⟩ = some (.string r.t.o.b) ∧ W.cell? ⟨g, o + i * 17 + 13, none⟩ = some (.string r.t.o.c) ∧ W.cell? ⟨g, o + i * 17 + 14, none⟩ = some (.int .i64 r.x) ∧ W.cell? ⟨g, o + i * 17 + 15, none⟩ = some (.int .i64 r.y) ∧ W.cell? ⟨g, o + i * 17 + 16, none⟩ = some (.int .i64 r.z) := fun i hi => by
    obtain ⟨r, hr⟩ : ∃ r, l[i]? = some r := ⟨_, List.getElem?_eq_getElem (by omega)⟩
    exact ⟨r, hl r (List.mem_of_getElem? hr), fun {W} hb => sl_at17 (hs.below hb) hr⟩
  have cN := fun W => dnew_ok room (by omega) (by omega) W
  rw [← hn] at hzI ⊢
  have HEL := Lib.hid hel
  have HN := Lib.hid hn40
  have HRM := Lib.hid (show 1 ≤ room ∧ room ≤ 65536 from by omega)
  clear hz hl hc hm hs hel hn40 hn rb0 rb1
  go_enter Try.func3, Try.ntmps3
  go_wp2_with (first
    | (go_at_call 4; (with_reducible refine (cA hB0).mono ?_); rintro e w1 ⟨rfl, hB1⟩)
    | (go_at_call 5; (with_reducible refine (cN _).mono ?_); rintro e w2 ⟨d, m, rfl, hD2, hb2⟩))
  have HB1 := Lib.hid hB1
  obtain ⟨g7, hg7⟩ : ∃ g, g = w2.heap.size := ⟨_, rfl⟩
  have hstart : PlI w1 d m g7 room n n (.int .i64 0) (w2.alloc (.cells #[.int .i64 room, .slice none 0 0] 30)) := by
    rw [hg7]
    exact ⟨0, _, _, [], by omega, rfl, ⟨hb2.alloc hb2.size _, hD2.alloc _, dtL_nil _ _, Fb.new _ _ _, hb2.size, fun p h => (by cases h), fun p h => (by cases h)⟩, fun t h => absurd h List.not_mem_nil, by simp⟩
  have HST := Lib.hid hstart
  rw [← hg7]
  clear hB0 hB1 hD2 hb2 cA cN hstart hr1 hr2 hg7
  go_loopg [69] n (fun g s69 wr => PlI w1 d m g7 room n g s69 wr)
  case atStart => exact HST.out
  case round =>
    clear HST
    obtain ⟨i, v5, u5, L, hig, rfl, hK, hG, hLl⟩ := hrel
    cases gk with
    | zero =>
      have hin : ¬ (i : Int) < (n : Int) := by omega
      have HBZ := Lib.hid (HB1.out.trans (hK.b.mono HB1.out.size))
      clear hig hK hG hLl
      go_wp2
      go_ret
      exact ⟨rfl, HBZ.out⟩
    | succ g =>
      have hin : (i : Int) < (n : Int) := by omega
      have hiz : (0 : Int) ≤ (i : Int) := by omega
      obtain ⟨r, hrok, hcell⟩ := HEL.out i (by omega)
      obtain ⟨gg, og, rfl, q0, q1, q2, q3, q4, q5, q6, q7, q8, q9, q10, q11, q12, q13, q14, q15, q16⟩ := hcell (HB1.out.trans (hK.b.mono HB1.out.size))
      obtain ⟨kd, an, ⟨⟨sk, sa, sb, sc⟩, ⟨pk, pa, pb, pc⟩, ⟨qk, qa, qb, qc⟩⟩, kx, ky, kz⟩ := r
      obtain ⟨hkd, han, ⟨hts, htp, hto⟩, hkx, hky, hkz⟩ := hrok
      dsimp only at q0 q1 q2 q3 q4 q5 q6 q7 q8 q9 q10 q11 q12 q13 q14 q15 q16 hkd han hts htp hto hkx hky hkz
      obtain ⟨A5, c5, rfl⟩ := hK.dl.shape
      have hi40 : i < 40 := by have := HN.out; omega
      have HIG := Lib.hid (show i + 1 + g = n from by omega)
      have HI := Lib.hid hi40
      have HG := Lib.hid hG
      have HLL := Lib.hid hLl
      have HNB := Lib.hid (And.intro han (And.intro hkx (And.intro hky hkz)))
      clear hcell hig hG hLl HEL
      refine dp_round (g := g) (v5 := v5) hin hiz q0 q1 q2 q3 q4 q5 q6 q7 q8 q9 q10 q11 q12 q13 q14 q15 q16 hK hts.1 htp.1 hto.1 hkd HNB HIG HI HG HLL (Lib.hid fun e4 e9 e10 e11 e12 e13 e14 e15 e16 e17 e18 e19 e20 e21 e22 e23 e24 e25 e26 e27 e28 e29 e30 e31 e32 e33 e69 e70 e71 e72 e73 e74 e75 e76 e77 e78 e79 e80 e81 e82 e83 e84 e85 e86 e87 e88 e89 e90 e91 e92 e93 e94 e95 e96 e97 e98 e99 e100 e101 e102 e103 e104 e105 e106 e107 e108 e109 e110 e111 e112 e113 e114 e115 e116 e117 e118 e119 e120 e121 e122 e123 e124 e125 e126 e127 e128 e129 e130 e131 e132 e133 e134 e135 e136 e137 e138 e139 e140 e141 e142 e143 e144 e145 e146 e147 e148 e149 e150 e151 e152 e153 e154 e155 e156 e157 e158 e159 e160 e161 e162 e163 e164 e165 e166 e167 e168 e169 e170 e171 e172 e173 e174 e175 e176 e177 e178 e179 e180 e181 e182 e183 e184 e185 e186 e187 e188 e189 e190 e191 e192 e193 e194 e195 e196 e197 e198 e199 e200 e201 e202 e203 e204 e205 e206 e207 e208 e209 e210 e211 e212 e213 e214 e215 e216 e217 e218 e219 e220 e221 e222 e223 e224 e225 e226 e227 e228 e229 e230 e231 e232 e233 e234 e235 e236 e237 e238 e239 e240 e241 e242 e243 e244 e245 e246 e247 e248 e249 e250 e251 e252 e253 e254 e255 e256 e257 e258 e259 e260 e261 e262 e263 e264 e265 e266 e267 e268 e269 e270 e271 e272 e273 e274 e275 e276 e277 e278 e279 e280 e281 e282 e283 e284 e285 e286 e287 e288 e289 e290 e291 e292 e293 e294 e295 e296 e297 e298 e299 e300 e301 e302 e303 e304 e305 e306 e307 W hp => ?_) (Lib.hid fun e9 e10 e11 e12 e13 e14 e15 e16 e17 e18 e19 e20 e21 e22 e23 e24 e25 e26 e27 e28 e29 e30 e31 e32 e33 e69 e70 e71 e72 e73 e74 e75 e76 e77 e78 e79 e80 e81 e82 e83 e84 e85 e86 e87 e88 e89 e90 e91 e92 e93 e94 e95 e96 e97 e98 e99 e100 e101 e102 e103 e104 e105 e106 e107 e108 e109 e110 e111 e112 e113 e114 e115 e116 e117 e118 e119 e120 e121 e122 e123 e124 e125 e126 e127 e128 e129 e130 e131 e132 e133 e134 e135 e136 e137 e138 e139 e140 e141 e142 e143 e144 e145 e146 e147 e148 e149 e150 e151 e152 e153 e154 e155 e156 e157 e158 e159 e160 e161 e162 e163 e164 e165 e166 e167 e168 e169 e170 e171 e172 e173 e174 e175 e176 e177 e178 e179 e180 e181 e182 e183 e184 e185 e186 e187 e188 e189 e190 e191 e192 e193 e194 e195 e196 e197 e198 e199 e200 e201 e202 e203 e204 e205 e206 e207 e208 e209 e210 e211 e212 e213 e214 e215 e216 e217 e218 e219 e220 e221 e222 e223 e224 e225 e226 e227 e228 e229 e230 e231 e232 e233 e234 e235 e236 e237 e238 e239 e240 e241 e242 e243 e244 e245 e246 e247 e248 e249 e250 e251 e252 e253 e254 e255 e256 e257 e258 e259 e260 e261 e262 e263 e264 e265 e266 e267 e268 e269 e270 e271 e272 e273 e274 e275 e276 e277 e278 e279 e280 e281 e282 e283 e284 e285 e286 e287 e288 e289 e290 e291 e292 e293 e294 e295 e296 e297 e298 e299 e300 e301 e302 e303 e304 e305 e306 e307 W hb => ?_)
      · have HP := Lib.hid hp
        clear hp
        go_step
        go_roundg g
        case measure => exact Nat.lt_succ_self g
        case rel => exact HP.out
      · have HB := Lib.hid (HB1.out.trans (hb.mono HB1.out.size))
        clear hb
        go_ret
        exact ⟨rfl, HB.out⟩
theorem dplays_walk (room : Int) (rb0 : -9223372036854775808 ≤ room) (rb1 : room ≤ 9223372036854775807) (l : List Da) (hl : ∀ t ∈ l, t.ok) (A : Option Addr) (cap : Nat) (hc : l.length ≤ cap) (hm : cap ≤ maxLen) (w : World) (hs : SlAt w A 17 (l.map Da.cells)) :
    Calls Try.prog 3 #[.int .i64 room, .slice A l.length cap] w fun e w' => e = .returned (.bool true) ∧ Below w.heap.size w w' := by
  by_cases hz : 40 < l.length
  · exact dp_many room A l.length cap w (by omega)
  by_cases hr1 : room < 1
  · exact dp_low room A l.length cap w (by omega) hr1
  by_cases hr2 : 65536 < room
  · exact dp_high room A l.length cap w (by omega) hr1 hr2
  exact dplays_main room rb0 rb1 l hl A cap hc hm w hs hz hr1 hr2
end Go.Proofs.Ytehechbiajbobaa
