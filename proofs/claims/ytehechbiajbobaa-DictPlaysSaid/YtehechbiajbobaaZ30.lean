/-
  MERGED (a claim has at most 60 files): DPK3.
-/
import Derived.Test.YtehechbiajbobaaZ28
import Derived.Deep.RegionHeld3
import Derived.Deep.CutRange
import Derived.Deep.CutBlock
/-
  DictPlays: an act of kind 3. (Out of dpcut.py.)
-/
namespace Go.Proofs.Ytehechbiajbobaa
open Go.RowKit
set_option linter.unusedVariables false
set_option linter.unusedSimpArgs false
set_option maxRecDepth 100000
set_option maxHeartbeats 64000000 in
theorem dp_kind3 {R : Act → World → Prop} {Q' : Exit → Act → World → Prop} {w1 : World} {d m g7 g9 i : Nat} {room : Int} {v5 : Value} {L : List Tm} {A5 : Option Addr} {c5 : Nat} {kd an kx ky kz sk pk qk k0 k1 k2 : Int} {sa sb sc pa pb pc qa qb qc a0 a1 a2 b0 b1 b2 c0 c1 c2 : ByteArray} {wc : World} {g10 : Nat} {ta tb tc : Tm} {tcv : Value} {f0 f1 f2 f3 f4 f6 f8 f11 f12 f13 f14 f15 f16 f17 f18 f19 f20 f21 f22 f23 f24 f25 f26 f27 f28 f29 f30 f31 f32 f33 f34 f35 f36 f37 f38 f39 f40 f41 f42 f43 f44 f45 f46 f47 f48 f49 f50 f51 f52 f53 f54 f55 f56 f57 f58 f59 f60 f61 f62 f63 f64 f65 f66 f67 f68 f69 f70 f71 f72 f73 f74 f75 f76 f77 f78 f79 f80 f81 f82 f83 f84 f85 f86 f87 f88 f89 f90 f91 f92 f93 f94 f95 f96 f97 f98 f99 f100 f101 f102 f103 f104 f105 f106 f107 f108 f109 f110 f111 f112 f113 f114 f115 f116 f117 f118 f119 f120 f121 f122 f123 f124 f125 f126 f127 f128 f129 f130 f131 f132 f133 f134 f135 f136 f137 f138 f139 f140 f141 f142 f143 f144 f145 f146 f147 f148 f149 f150 f151 f152 f153 f154 f155 f156 f157 f158 f159 f160 f161 f162 f163 f164 f165 f166 f167 f168 f169 f170 f171 f172 f173 f174 f175 f176 f177 f178 f179 f180 f181 f182 f183 f184 f185 f186 f187 f188 f189 f190 f191 f192 f193 f194 f195 f196 f197 f198 f199 f200 f201 f202 f203 f204 f205 f206 f207 f208 f209 f210 f211 f212 f213 f214 f215 f216 f217 f218 f219 f220 f221 f222 f223 f224 f225 f226 f227 f228 f229 f230 f231 f232 f233 f234 f235 f236 f237 f238 f239 f240 f241 f242 f243 f244 f245 f246 f247 f248 f249 f250 f251 f252 f253 f254 f255 f256 f257 f258 f259 f260 f261 f262 f263 f264 f265 f266 f267 f268 f269 f270 f271 f272 f273 f274 f275 f276 f277 f278 f279 f280 f281 f282 f283 f284 f285 f286 f287 f288 f289 f290 f291 f292 f293 f294 f295 f296 f297 f298 f299 f300 f301 f302 f303 f304 f305 f306 f307 : Value}
    (HI : Hid (i < 40)) (HG : Hid (Gok L)) (HLL : Hid (L.length ≤ 3 * i)) (FW : Hid (ta.few ∧ tb.few ∧ tc.few)) (KK : Hid (ta.kind < 3 ∧ tb.kind < 3 ∧ tc.kind < 3))
    (cR : ∀ w : World, Calls Try.prog 8 #[F4 k2 c0 c1 c2] w fun e w' => e = .returned tcv ∧ Below w.heap.size w w')
    (EA : Hid (k0 = ta.kind ∧ a0 = ta.ta ∧ a1 = ta.tb ∧ a2 = ta.tc)) (EB : Hid (k1 = tb.kind ∧ b0 = tb.ta ∧ b1 = tb.tb ∧ b2 = tb.tc)) (EC : Hid (k2 = tc.kind ∧ c0 = tc.ta ∧ c1 = tc.tb ∧ c2 = tc.tc))
    (HVA : Hid (tcv = tc.val)) (HKD : Hid (0 ≤ kd ∧ kd ≤ 255)) (HNB : Hid (i64b an ∧ i64b kx ∧ i64b ky ∧ i64b kz)) (HIF : Hid (∃ ty x, tc.val = Value.iface ty x))
    (hq : kd.tmod 7 = ((3 : Nat) : Int))
    (hC : Px w1 d m g7 room v5 L (.slice A5 L.length c5) [(g10, 34, #[.int .i64 k0, .string a0, .string a1, .string a2, .int .i64 k1, .string b0, .string b1, .string b2, .int .i64 k2, .string c0, .string c1, .string c2]), (g9, 37, #[.int .u8 kd, .int .i64 an, .int .i64 sk, .string sa, .string sb, .string sc, .int .i64 pk, .string pa, .string pb, .string pc, .int .i64 qk, .string qa, .string qb, .string qc, .int .i64 kx, .int .i64 ky, .int .i64 kz])] wc)
    (HR : Hid (∀ (e4 e11 e12 e13 e14 e15 e16 e17 e18 e19 e20 e21 e22 e23 e24 e25 e26 e27 e28 e29 e30 e31 e32 e33 e92 e93 e94 e95 e96 e97 e98 e99 e100 e101 e102 e103 e104 e105 e106 e107 e108 e109 e110 e111 e112 e113 e114 e115 e116 e117 e118 e119 e120 e121 e122 e123 e124 e125 e126 e127 e128 e129 e130 e131 e132 e133 e134 e135 e136 e137 e138 e139 e140 e141 e142 e143 e144 e145 e146 e147 e148 e149 e150 e151 e152 e153 e154 e155 e156 e157 e158 e159 e160 e161 e162 e163 e164 e165 e166 e167 e168 e169 e170 e171 e172 e173 e174 e175 e176 e177 e178 e179 e180 e181 e182 e183 e184 e185 e186 e187 e188 e189 e190 e191 e192 e193 e194 e195 e196 e197 e198 e199 e200 e201 e202 e203 e204 e205 e206 e207 e208 e209 e210 e211 e212 e213 e214 e215 e216 e217 e218 e219 e220 e221 e222 e223 e224 e225 e226 e227 e228 e229 e230 e231 e232 e233 e234 e235 e236 e237 e238 e239 e240 e241 e242 e243 e244 e245 e246 e247 e248 e249 e250 e251 e252 e253 e254 e255 e256 e257 e258 e259 e260 e261 e262 e263 e264 e265 e266 e267 e268 e269 e270 e271 e272 e273 e274 e275 e276 e277 e278 e279 e280 e281 e282 e283 e284 e285 e286 e287 e288 e289 e290 e291 e292 e293 e294 e295 e296 e297 e298 e299 e300 e301 e302 e303 e304 e305 e306 e307 : Value) (v u : Value) (L' : List Tm) (W : World), Px w1 d m g7 room v L' u [] W → L'.length ≤ 3 * i + 3 → Gok L' → R ⟨(f0 :: f1 :: f2 :: f3 :: e4 :: .pointer (some ⟨d, 0, none⟩) :: f6 :: .pointer (some ⟨g7, 0, none⟩) :: f8 :: .pointer (some ⟨g9, 0, none⟩) :: .pointer (some ⟨g10, 0, none⟩) :: e11 :: e12 :: e13 :: e14 :: e15 :: e16 :: e17 :: e18 :: e19 :: e20 :: e21 :: e22 :: e23 :: e24 :: e25 :: e26 :: e27 :: e28 :: e29 :: e30 :: e31 :: e32 :: e33 :: f34 :: f35 :: f36 :: f37 :: f38 :: f39 :: f40 :: f41 :: f42 :: f43 :: f44 :: f45 :: f46 :: f47 :: f48 :: f49 :: f50 :: f51 :: f52 :: f53 :: f54 :: f55 :: f56 :: f57 :: f58 :: f59 :: f60 :: f61 :: f62 :: f63 :: f64 :: f65 :: f66 :: f67 :: f68 :: f69 :: f70 :: f71 :: f72 :: f73 :: f74 :: f75 :: f76 :: f77 :: f78 :: f79 :: f80 :: f81 :: f82 :: f83 :: f84 :: f85 :: f86 :: f87 :: f88 :: f89 :: f90 :: f91 :: e92 :: e93 :: e94 :: e95 :: e96 :: e97 :: e98 :: e99 :: e100 :: e101 :: e102 :: e103 :: e104 :: e105 :: e106 :: e107 :: e108 :: e109 :: e110 :: e111 :: e112 :: e113 :: e114 :: e115 :: e116 :: e117 :: e118 :: e119 :: e120 :: e121 :: e122 :: e123 :: e124 :: e125 :: e126 :: e127 :: e128 :: e129 :: e130 :: e131 :: e132 :: e133 :: e134 :: e135 :: e136 :: e137 :: e138 :: e139 :: e140 :: e141 :: e142 :: e143 :: e144 :: e145 :: e146 :: e147 :: e148 :: e149 :: e150 :: e151 :: e152 :: e153 :: e154 :: e155 :: e156 :: e157 :: e158 :: e159 :: e160 :: e161 :: e162 :: e163 :: e164 :: e165 :: e166 :: e167 :: e168 :: e169 :: e170 :: e171 :: e172 :: e173 :: e174 :: e175 :: e176 :: e177 :: e178 :: e179 :: e180 :: e181 :: e182 :: e183 :: e184 :: e185 :: e186 :: e187 :: e188 :: e189 :: e190 :: e191 :: e192 :: e193 :: e194 :: e195 :: e196 :: e197 :: e198 :: e199 :: e200 :: e201 :: e202 :: e203 :: e204 :: e205 :: e206 :: e207 :: e208 :: e209 :: e210 :: e211 :: e212 :: e213 :: e214 :: e215 :: e216 :: e217 :: e218 :: e219 :: e220 :: e221 :: e222 :: e223 :: e224 :: e225 :: e226 :: e227 :: e228 :: e229 :: e230 :: e231 :: e232 :: e233 :: e234 :: e235 :: e236 :: e237 :: e238 :: e239 :: e240 :: e241 :: e242 :: e243 :: e244 :: e245 :: e246 :: e247 :: e248 :: e249 :: e250 :: e251 :: e252 :: e253 :: e254 :: e255 :: e256 :: e257 :: e258 :: e259 :: e260 :: e261 :: e262 :: e263 :: e264 :: e265 :: e266 :: e267 :: e268 :: e269 :: e270 :: e271 :: e272 :: e273 :: e274 :: e275 :: e276 :: e277 :: e278 :: e279 :: e280 :: e281 :: e282 :: e283 :: e284 :: e285 :: e286 :: e287 :: e288 :: e289 :: e290 :: e291 :: e292 :: e293 :: e294 :: e295 :: e296 :: e297 :: e298 :: e299 :: e300 :: e301 :: e302 :: e303 :: e304 :: e305 :: e306 :: e307 :: []).toArray, []⟩ W)) :
    Code.wp Try.prog dpRest (Exit.then R Q') ⟨(f0 :: f1 :: f2 :: f3 :: f4 :: .pointer (some ⟨d, 0, none⟩) :: f6 :: .pointer (some ⟨g7, 0, none⟩) :: f8 :: .pointer (some ⟨g9, 0, none⟩) :: .pointer (some ⟨g10, 0, none⟩) :: f11 :: f12 :: f13 :: f14 :: f15 :: f16 :: f17 :: f18 :: f19 :: f20 :: f21 :: f22 :: f23 :: f24 :: f25 :: f26 :: f27 :: f28 :: f29 :: f30 :: f31 :: f32 :: f33 :: f34 :: f35 :: f36 :: f37 :: f38 :: f39 :: f40 :: f41 :: f42 :: f43 :: f44 :: f45 :: f46 :: f47 :: f48 :: f49 :: f50 :: f51 :: f52 :: f53 :: f54 :: f55 :: f56 :: f57 :: f58 :: f59 :: f60 :: f61 :: f62 :: f63 :: f64 :: f65 :: f66 :: f67 :: f68 :: f69 :: f70 :: f71 :: f72 :: f73 :: f74 :: f75 :: f76 :: f77 :: f78 :: f79 :: f80 :: f81 :: f82 :: f83 :: f84 :: f85 :: f86 :: f87 :: f88 :: f89 :: f90 :: f91 :: f92 :: f93 :: f94 :: f95 :: f96 :: f97 :: f98 :: f99 :: f100 :: f101 :: f102 :: f103 :: f104 :: f105 :: f106 :: f107 :: f108 :: f109 :: f110 :: f111 :: f112 :: f113 :: f114 :: f115 :: f116 :: f117 :: f118 :: f119 :: f120 :: f121 :: f122 :: f123 :: f124 :: f125 :: f126 :: f127 :: f128 :: f129 :: f130 :: f131 :: f132 :: f133 :: f134 :: f135 :: f136 :: f137 :: f138 :: f139 :: f140 :: f141 :: f142 :: f143 :: f144 :: f145 :: f146 :: f147 :: f148 :: f149 :: f150 :: f151 :: f152 :: f153 :: f154 :: f155 :: f156 :: f157 :: f158 :: f159 :: f160 :: f161 :: f162 :: f163 :: f164 :: f165 :: f166 :: f167 :: f168 :: f169 :: f170 :: f171 :: f172 :: f173 :: f174 :: f175 :: f176 :: f177 :: f178 :: f179 :: f180 :: f181 :: f182 :: f183 :: f184 :: f185 :: f186 :: f187 :: f188 :: f189 :: f190 :: f191 :: f192 :: f193 :: f194 :: f195 :: f196 :: f197 :: f198 :: f199 :: f200 :: f201 :: f202 :: f203 :: f204 :: f205 :: f206 :: f207 :: f208 :: f209 :: f210 :: f211 :: f212 :: f213 :: f214 :: f215 :: f216 :: f217 :: f218 :: f219 :: f220 :: f221 :: f222 :: f223 :: f224 :: f225 :: f226 :: f227 :: f228 :: f229 :: f230 :: f231 :: f232 :: f233 :: f234 :: f235 :: f236 :: f237 :: f238 :: f239 :: f240 :: f241 :: f242 :: f243 :: f244 :: f245 :: f246 :: f247 :: f248 :: f249 :: f250 :: f251 :: f252 :: f253 :: f254 :: f255 :: f256 :: f257 :: f258 :: f259 :: f260 :: f261 :: f262 :: f263 :: f264 :: f265 :: f266 :: f267 :: f268 :: f269 :: f270 :: f271 :: f272 :: f273 :: f274 :: f275 :: f276 :: f277 :: f278 :: f279 :: f280 :: f281 :: f282 :: f283 :: f284 :: f285 :: f286 :: f287 :: f288 :: f289 :: f290 :: f291 :: f292 :: f293 :: f294 :: f295 :: f296 :: f297 :: f298 :: f299 :: f300 :: f301 :: f302 :: f303 :: f304 :: f305 :: f306 :: f307 :: []).toArray, []⟩ wc := by
  conv => arg 2; whnf
  obtain ⟨m0, m1⟩ := hC.c7; obtain ⟨t0, t1, t2, t3, t4, t5, t6, t7, t8, t9, t10, t11⟩ := hC.c12; have hax := hC.bx _ (.tail _ (.head _)); dsimp only at hax; have g0 := hax.cell 0; have g1 := hax.cell 1; have g14 := hax.cell 14; have g15 := hax.cell 15; have g16 := hax.cell 16; clear hax
  have cI : ∀ {v u : Value} {W : World}, Px w1 d m g7 room v L u [] W → Calls Try.prog 23 #[.pointer (some ⟨d, 0, none⟩), .agg #[.int .i64 room, u]] W fun e w' => e = .returned (.bool true) ∧ Below W.heap.size W w' := fun {v u W} h => dis_any h.dc h.dl (fun t ht => (HG.out t ht).1) (fun t ht => (HG.out t ht).2) (by have := HLL.out; have := HI.out; omega) room
  have HRL := Lib.hid (show L.length ≤ 3 * i + 3 from by have := HLL.out; omega)
  obtain ⟨ty, xv, hif⟩ := HIF.out
  rw [← HVA.out] at hif
  subst hif
  obtain ⟨b, hb⟩ : ∃ b, b = hasB L an := ⟨_, rfl⟩
  cases b with
  | false =>
    have cT : ∀ {l : List (Nat × TypeId × Array Value)} {W : World}, Px w1 d m g7 room v5 L (.slice A5 L.length c5) l W → Calls Try.prog 13 #[.pointer (some ⟨d, 0, none⟩), .int .i64 an] W fun e w' => e = .returned (.tuple #[.nilIface, .int .i64 4]) ∧ w' = W := fun {l W} h => dterm_none h.dc (by have := HLL.out; have := HI.out; omega) an hb.symm
    have hno : ¬ (0 ≤ an ∧ an < (L.length : Int)) := fun h => by have := hasB_iff.2 h; rw [← hb] at this; cases this
    clear hb
    by_cases h0 : 0 ≤ an
    · have h1 : ¬ an < (L.length : Int) := fun h => hno ⟨h0, h⟩
      have d1 : decide ((0 : Int) ≤ an) = true := decide_eq_true h0
      have d2 : decide (an < (L.length : Int)) = false := decide_eq_false h1
      clear hno
      go_wp2_with (first
        | (go_at_call 8; (with_reducible refine (cR _).mono ?_); rintro e w9 ⟨rfl, hb9⟩; have hC9 := hC.below hb9; obtain ⟨m0, m1⟩ := hC9.c7; obtain ⟨t0, t1, t2, t3, t4, t5, t6, t7, t8, t9, t10, t11⟩ := hC9.c12; have hax := hC9.bx _ (.tail _ (.head _)); dsimp only at hax; have g0 := hax.cell 0; have g1 := hax.cell 1; have g14 := hax.cell 14; have g15 := hax.cell 15; have g16 := hax.cell 16; clear hax)
        | (go_at_call 13; (with_reducible refine (cT hC9).mono ?_); rintro e wA ⟨rfl, rfl⟩))
      go_quiet (fail)
      have hP := (hC9.drewN nq).nil
      obtain ⟨m0, m1⟩ := hP.c7
      go_wp2_with (go_at_call 23; (with_reducible refine (cI hP).mono ?_); rintro e wz ⟨rfl, hbz⟩)
      exact HR.out _ _ _ _ _ _ _ _ _ _ _ _ _ _ _ _ _ _ _ _ _ _ _ _ _ _ _ _ _ _ _ _ _ _ _ _ _ _ _ _ _ _ _ _ _ _ _ _ _ _ _ _ _ _ _ _ _ _ _ _ _ _ _ _ _ _ _ _ _ _ _ _ _ _ _ _ _ _ _ _ _ _ _ _ _ _ _ _ _ _ _ _ _ _ _ _ _ _ _ _ _ _ _ _ _ _ _ _ _ _ _ _ _ _ _ _ _ _ _ _ _ _ _ _ _ _ _ _ _ _ _ _ _ _ _ _ _ _ _ _ _ _ _ _ _ _ _ _ _ _ _ _ _ _ _ _ _ _ _ _ _ _ _ _ _ _ _ _ _ _ _ _ _ _ _ _ _ _ _ _ _ _ _ _ _ _ _ _ _ _ _ _ _ _ _ _ _ _ _ _ _ _ _ _ _ _ _ _ _ _ _ _ _ _ _ _ _ _ _ _ _ _ _ _ _ _ _ _ _ _ _ _ _ _ _ _ _ _ _ _ _ _ _ _ (by first | exact (hP.below hbz) | exact Px.drew (hP.below hbz)) (HRL.out) (HG.out)
    · have d1 : decide ((0 : Int) ≤ an) = false := decide_eq_false h0
      clear hno
      go_wp2_with (first
        | (go_at_call 8; (with_reducible refine (cR _).mono ?_); rintro e w9 ⟨rfl, hb9⟩; have hC9 := hC.below hb9; obtain ⟨m0, m1⟩ := hC9.c7; obtain ⟨t0, t1, t2, t3, t4, t5, t6, t7, t8, t9, t10, t11⟩ := hC9.c12; have hax := hC9.bx _ (.tail _ (.head _)); dsimp only at hax; have g0 := hax.cell 0; have g1 := hax.cell 1; have g14 := hax.cell 14; have g15 := hax.cell 15; have g16 := hax.cell 16; clear hax)
        | (go_at_call 13; (with_reducible refine (cT hC9).mono ?_); rintro e wA ⟨rfl, rfl⟩))
      go_quiet (fail)
      have hP := (hC9.drewN nq).nil
      obtain ⟨m0, m1⟩ := hP.c7
      go_wp2_with (go_at_call 23; (with_reducible refine (cI hP).mono ?_); rintro e wz ⟨rfl, hbz⟩)
      exact HR.out _ _ _ _ _ _ _ _ _ _ _ _ _ _ _ _ _ _ _ _ _ _ _ _ _ _ _ _ _ _ _ _ _ _ _ _ _ _ _ _ _ _ _ _ _ _ _ _ _ _ _ _ _ _ _ _ _ _ _ _ _ _ _ _ _ _ _ _ _ _ _ _ _ _ _ _ _ _ _ _ _ _ _ _ _ _ _ _ _ _ _ _ _ _ _ _ _ _ _ _ _ _ _ _ _ _ _ _ _ _ _ _ _ _ _ _ _ _ _ _ _ _ _ _ _ _ _ _ _ _ _ _ _ _ _ _ _ _ _ _ _ _ _ _ _ _ _ _ _ _ _ _ _ _ _ _ _ _ _ _ _ _ _ _ _ _ _ _ _ _ _ _ _ _ _ _ _ _ _ _ _ _ _ _ _ _ _ _ _ _ _ _ _ _ _ _ _ _ _ _ _ _ _ _ _ _ _ _ _ _ _ _ _ _ _ _ _ _ _ _ _ _ _ _ _ _ _ _ _ _ _ _ _ _ _ _ _ _ _ _ _ _ _ _ (by first | exact (hP.below hbz) | exact Px.drew (hP.below hbz)) (HRL.out) (HG.out)
  | true =>
    obtain ⟨h0, h1⟩ := hasB_iff.1 hb.symm
    obtain ⟨j, rfl⟩ : ∃ j : Nat, an = j := ⟨an.toNat, by omega⟩
    obtain ⟨t3, ht3⟩ : ∃ t, L[j]? = some t := ⟨_, List.getElem?_eq_getElem (by omega)⟩
    have hk3 := d_good_kind (HG.out t3 (List.mem_of_getElem? ht3)).1
    have cT : ∀ {l : List (Nat × TypeId × Array Value)} {W : World}, Px w1 d m g7 room v5 L (.slice A5 L.length c5) l W → Calls Try.prog 13 #[.pointer (some ⟨d, 0, none⟩), .int .i64 j] W fun e w' => e = .returned (.tuple #[t3.val, .int .i64 0]) ∧ w' = W := fun {l W} h => dterm_some h.dc (by have := HLL.out; have := HI.out; omega) j t3 ht3
    have cL3 := lref_any t3
    obtain ⟨ty3, xv3, hv3⟩ := iface_of hk3
    rw [hv3] at cT cL3
    have hdl : ∀ {l : List (Nat × TypeId × Array Value)} {W : World}, Px w1 d m g7 room v5 L (.slice A5 L.length c5) l W → _ := fun {l W} h => dtL_at h.dl ht3
    obtain ⟨gL, cL', evL, hgl, u0, u1, u2, u3⟩ := hdl hC
    injection evL with evL1 evL2 evL3
    subst evL1
    clear evL2 evL3
    obtain ⟨x30, y30⟩ : ∃ x, x = t3.kind := ⟨_, rfl⟩
    obtain ⟨x31, y31⟩ : ∃ x, x = t3.ta := ⟨_, rfl⟩
    obtain ⟨x32, y32⟩ : ∃ x, x = t3.tb := ⟨_, rfl⟩
    obtain ⟨x33, y33⟩ : ∃ x, x = t3.tc := ⟨_, rfl⟩
    rw [← y30] at u0
    rw [← y31] at u1
    rw [← y32] at u2
    rw [← y33] at u3
    rw [← y30, ← y31, ← y32, ← y33] at cL3
    have hne3 := neqT4s x30 x31 x32 x33
    have K3 : ∀ W, Below wc.heap.size wc W → W.cell? ⟨g7, 1, none⟩ = some (.slice (some ⟨gL, 0, none⟩) L.length c5) ∧ W.cell? ⟨g9, 1, none⟩ = some (.int .i64 j) ∧ W.cell? ⟨gL, j * 4, none⟩ = some (.int .i64 x30) ∧ W.cell? ⟨gL, j * 4 + 1, none⟩ = some (.string x31) ∧ W.cell? ⟨gL, j * 4 + 2, none⟩ = some (.string x32) ∧ W.cell? ⟨gL, j * 4 + 3, none⟩ = some (.string x33) := fun W hb => by
      have h := hC.below hb
      have hax := h.bx _ (.tail _ (.head _))
      dsimp only at hax
      exact ⟨h.c7.2, hax.cell 1, (hb.cell (p := ⟨gL, j * 4, none⟩) hgl).trans u0, (hb.cell (p := ⟨gL, j * 4 + 1, none⟩) hgl).trans u1, (hb.cell (p := ⟨gL, j * 4 + 2, none⟩) hgl).trans u2, (hb.cell (p := ⟨gL, j * 4 + 3, none⟩) hgl).trans u3⟩
    have d1 : decide ((0 : Int) ≤ (j : Int)) = true := decide_eq_true (by omega)
    have d2 : decide ((j : Int) < (L.length : Int)) = true := decide_eq_true h1
    clear hdl u0 u1 u2 u3 y30 y31 y32 y33 hv3 hk3 ht3 hb
    go_wp2_with (first
      | (go_at_call 8; (with_reducible refine (cR _).mono ?_); rintro e w9 ⟨rfl, hb9⟩; have hC9 := hC.below hb9; obtain ⟨m0, m1⟩ := hC9.c7; obtain ⟨t0, t1, t2, t3, t4, t5, t6, t7, t8, t9, t10, t11⟩ := hC9.c12; have hax := hC9.bx _ (.tail _ (.head _)); dsimp only at hax; have g0 := hax.cell 0; have g1 := hax.cell 1; have g14 := hax.cell 14; have g15 := hax.cell 15; have g16 := hax.cell 16; clear hax)
      | (go_at_call 13; (with_reducible refine (cT hC9).mono ?_); rintro e wA ⟨rfl, rfl⟩))
    have hWA := hb9
    obtain ⟨o0, o1, o2, o3, o4, o5⟩ := K3 _ hb9
    refine wp_region_noPanic ?_
    refine wp_region_held_drew (S := (fun W => W.cell? ⟨g7, 1, none⟩ = some (.slice (some ⟨gL, 0, none⟩) L.length c5) ∧ W.cell? ⟨g9, 1, none⟩ = some (.int .i64 j) ∧ W.cell? ⟨gL, j * 4, none⟩ = some (.int .i64 x30) ∧ W.cell? ⟨gL, j * 4 + 1, none⟩ = some (.string x31) ∧ W.cell? ⟨gL, j * 4 + 2, none⟩ = some (.string x32) ∧ W.cell? ⟨gL, j * 4 + 3, none⟩ = some (.string x33))) (by kernel_rfl) (by refine K3 _ ?_; repeat (first | assumption | refine Below.drew ?_)) (fun hHeld => ?_)
    refine wpAnyH_take (i := 0) (oi := { dst := some 202, op := Go.Op.move (Go.Operand.tmp 21), type := 25, pos := "law.go:88", after := #[], guard := none }) (v := ?_) rfl (by kernel_rfl) (by kernel_rfl) (by kernel_rfl) (fun _ _ _ h => h) (Or.inl ⟨by rfl, ?_⟩) (by assumption) ?_
    rotate_left
    · (intro w hSw; (try dsimp only at hSw); go_simp; try with_reducible rfl)
    try simp only [Act.put, List.setIfInBounds_toArray, List.set_cons_zero, List.set_cons_succ]
    refine wpAnyH_take (i := 1) (oi := { dst := some 203, op := Go.Op.binOp Go.BinOp.eql 25 (Go.Operand.tmp 202) (Go.Operand.const (Go.Value.int Go.IntKind.i64 0)) 25, type := 4, pos := "law.go:88", after := #[{ on := 0, ground := Go.Ground.data }], guard := none }) (v := ?_) rfl (by kernel_rfl) (by kernel_rfl) (by kernel_rfl) (fun _ _ _ h => h) (Or.inl ⟨by rfl, ?_⟩) (by assumption) ?_
    rotate_left
    · (intro w hSw; (try dsimp only at hSw); go_simp; try with_reducible rfl)
    try simp only [Act.put, List.setIfInBounds_toArray, List.set_cons_zero, List.set_cons_succ]
    refine wpAnyH_take (i := 2) (oi := { dst := some 204, op := Go.Op.move (Go.Operand.tmp 22), type := 4, pos := "law.go:88", after := #[], guard := none }) (v := ?_) rfl (by kernel_rfl) (by kernel_rfl) (by kernel_rfl) (fun _ _ _ h => h) (Or.inl ⟨by rfl, ?_⟩) (by assumption) ?_
    rotate_left
    · (intro w hSw; (try dsimp only at hSw); go_simp; try with_reducible rfl)
    try simp only [Act.put, List.setIfInBounds_toArray, List.set_cons_zero, List.set_cons_succ]
    refine wpAnyH_take (i := 3) (oi := { dst := some 205, op := Go.Op.binOp Go.BinOp.neq 4 (Go.Operand.tmp 203) (Go.Operand.tmp 204) 4, type := 4, pos := "law.go:88", after := #[{ on := 1, ground := Go.Ground.data }, { on := 2, ground := Go.Ground.data }], guard := none }) (v := ?_) rfl (by kernel_rfl) (by kernel_rfl) (by kernel_rfl) (fun _ _ _ h => h) (Or.inl ⟨by rfl, ?_⟩) (by assumption) ?_
    rotate_left
    · (intro w hSw; (try dsimp only at hSw); go_simp; try with_reducible rfl)
    try simp only [Act.put, List.setIfInBounds_toArray, List.set_cons_zero, List.set_cons_succ]
    refine wpAnyH_take (i := 4) (oi := { dst := some 206, op := Go.Op.move (Go.Operand.tmp 205), type := 4, pos := "law.go:88", after := #[{ on := 3, ground := Go.Ground.data }], guard := none }) (v := ?_) rfl (by kernel_rfl) (by kernel_rfl) (by kernel_rfl) (fun _ _ _ h => h) (Or.inl ⟨by rfl, ?_⟩) (by assumption) ?_
    rotate_left
    · (intro w hSw; (try dsimp only at hSw); go_simp; try with_reducible rfl)
    try simp only [Act.put, List.setIfInBounds_toArray, List.set_cons_zero, List.set_cons_succ]
    refine wpAnyH_take (i := 5) (oi := { dst := some 207, op := Go.Op.move (Go.Operand.tmp 22), type := 4, pos := "law.go:88", after := #[{ on := 4, ground := Go.Ground.guard }], guard := some (4, false) }) (v := ?_) rfl (by kernel_rfl) (by kernel_rfl) (by kernel_rfl) (fun _ _ _ h => h) (Or.inl ⟨by rfl, ?_⟩) (by assumption) ?_
    rotate_left
    · (intro w hSw; (try dsimp only at hSw); go_simp; try with_reducible rfl)
    try simp only [Act.put, List.setIfInBounds_toArray, List.set_cons_zero, List.set_cons_succ]
    refine wpAnyH_take (i := 6) (oi := { dst := some 208, op := Go.Op.move (Go.Operand.tmp 207), type := 4, pos := "law.go:88", after := #[{ on := 5, ground := Go.Ground.data }, { on := 4, ground := Go.Ground.chain }, { on := 4, ground := Go.Ground.guard }], guard := some (4, false) }) (v := ?_) rfl (by kernel_rfl) (by kernel_rfl) (by kernel_rfl) (fun _ _ _ h => h) (Or.inl ⟨by rfl, ?_⟩) (by assumption) ?_
    rotate_left
    · (intro w hSw; (try dsimp only at hSw); go_simp; try with_reducible rfl)
    try simp only [Act.put, List.setIfInBounds_toArray, List.set_cons_zero, List.set_cons_succ]
    refine wpAnyH_take (i := 7) (oi := { dst := some 209, op := Go.Op.move (Go.Operand.tmp 20), type := 41, pos := "law.go:88", after := #[{ on := 6, ground := Go.Ground.guard }], guard := some (6, true) }) (v := ?_) rfl (by kernel_rfl) (by kernel_rfl) (by kernel_rfl) (fun _ _ _ h => h) (Or.inl ⟨by rfl, ?_⟩) (by assumption) ?_
    rotate_left
    · (intro w hSw; (try dsimp only at hSw); go_simp; try with_reducible rfl)
    try simp only [Act.put, List.setIfInBounds_toArray, List.set_cons_zero, List.set_cons_succ]
    refine wpAnyH_take (i := 9) (oi := { dst := some 211, op := Go.Op.fieldAddr 30 (Go.Operand.tmp 7) 1, type := 0, pos := "law.go:88", after := #[{ on := 6, ground := Go.Ground.guard }], guard := some (6, true) }) (v := ?_) rfl (by kernel_rfl) (by kernel_rfl) (by kernel_rfl) (fun _ _ _ h => h) (Or.inl ⟨by rfl, ?_⟩) (by assumption) ?_
    rotate_left
    · (intro w hSw; (try dsimp only at hSw); go_simp; try with_reducible rfl)
    try simp only [Act.put, List.setIfInBounds_toArray, List.set_cons_zero, List.set_cons_succ]
    refine wpAnyH_take (i := 10) (oi := { dst := some 212, op := Go.Op.load 28 (Go.Operand.tmp 211), type := 28, pos := "law.go:88", after := #[{ on := 9, ground := Go.Ground.data }, { on := 6, ground := Go.Ground.guard }], guard := some (6, true) }) (v := ?_) rfl (by kernel_rfl) (by kernel_rfl) (by kernel_rfl) (fun _ _ _ h => h) (Or.inl ⟨by rfl, ?_⟩) (by assumption) ?_
    rotate_left
    · (intro w hSw; (try dsimp only at hSw); go_simp; try with_reducible rfl)
    try simp only [Act.put, List.setIfInBounds_toArray, List.set_cons_zero, List.set_cons_succ]
    refine wpAnyH_take (i := 11) (oi := { dst := some 213, op := Go.Op.fieldAddr 37 (Go.Operand.tmp 9) 1, type := 0, pos := "law.go:88", after := #[{ on := 6, ground := Go.Ground.guard }], guard := some (6, true) }) (v := ?_) rfl (by kernel_rfl) (by kernel_rfl) (by kernel_rfl) (fun _ _ _ h => h) (Or.inl ⟨by rfl, ?_⟩) (by assumption) ?_
    rotate_left
    · (intro w hSw; (try dsimp only at hSw); go_simp; try with_reducible rfl)
    try simp only [Act.put, List.setIfInBounds_toArray, List.set_cons_zero, List.set_cons_succ]
    refine wpAnyH_take (i := 12) (oi := { dst := some 214, op := Go.Op.load 3 (Go.Operand.tmp 213), type := 3, pos := "law.go:88", after := #[{ on := 11, ground := Go.Ground.data }, { on := 6, ground := Go.Ground.guard }], guard := some (6, true) }) (v := ?_) rfl (by kernel_rfl) (by kernel_rfl) (by kernel_rfl) (fun _ _ _ h => h) (Or.inl ⟨by rfl, ?_⟩) (by assumption) ?_
    rotate_left
    · (intro w hSw; (try dsimp only at hSw); go_simp; try with_reducible rfl)
    try simp only [Act.put, List.setIfInBounds_toArray, List.set_cons_zero, List.set_cons_succ]
    refine wpAnyH_take (i := 13) (oi := { dst := some 215, op := Go.Op.indexAddr 28 (Go.Operand.tmp 212) (Go.Operand.tmp 214), type := 0, pos := "law.go:88", after := #[{ on := 10, ground := Go.Ground.data }, { on := 12, ground := Go.Ground.data }, { on := 6, ground := Go.Ground.guard }], guard := some (6, true) }) (v := ?_) rfl (by kernel_rfl) (by kernel_rfl) (by kernel_rfl) (fun _ _ _ h => h) (Or.inl ⟨by rfl, ?_⟩) (by assumption) ?_
    rotate_left
    · (intro w hSw; (try dsimp only at hSw); go_simp; try with_reducible rfl)
    try simp only [Act.put, List.setIfInBounds_toArray, List.set_cons_zero, List.set_cons_succ]
    refine wpAnyH_take (i := 14) (oi := { dst := some 216, op := Go.Op.load 32 (Go.Operand.tmp 215), type := 32, pos := "law.go:88", after := #[{ on := 13, ground := Go.Ground.data }, { on := 6, ground := Go.Ground.guard }], guard := some (6, true) }) (v := ?_) rfl (by kernel_rfl) (by kernel_rfl) (by kernel_rfl) (fun _ _ _ h => h) (Or.inl ⟨by rfl, ?_⟩) (by assumption) ?_
    rotate_left
    · (intro w hSw; (try dsimp only at hSw); go_simp; try with_reducible rfl)
    try simp only [Act.put, List.setIfInBounds_toArray, List.set_cons_zero, List.set_cons_succ]
    refine wpAnyH_ready (rs := [8]) (by kernel_rfl) (by simp) ?_
    refine AllReadyH.cons (o := { dst := some 210, op := Go.Op.call { callee := Go.Callee.value (Go.Operand.func 14), args := #[Go.Operand.tmp 209], argTypes := #[41] }, type := 32, pos := "law.go:88", after := #[{ on := 7, ground := Go.Ground.data }, { on := 6, ground := Go.Ground.chain }, { on := 6, ground := Go.Ground.guard }], guard := some (6, true) }) rfl (fun K hK => ?_) AllReadyH.nil
    go_simp
    go_at_call 14
    (with_reducible refine (cL3 _).mono ?_)
    rintro e wB ⟨rfl, hbB⟩
    have hB9 : Below wc.heap.size wc wB := Below.trans (by repeat (first | assumption | refine Below.drew ?_)) (hbB.mono (by have := hb9.size; exact this))
    (try go_wp2_with fail)
    refine hK.out _ _ (by refine K3 _ ?_; assumption) (fun hHeld => ?_)
    clear hK K
    try simp only [Act.put, List.setIfInBounds_toArray, List.set_cons_zero, List.set_cons_succ]
    refine wpAnyH_take (i := 15) (oi := { dst := some 217, op := Go.Op.binOp Go.BinOp.neq 32 (Go.Operand.tmp 210) (Go.Operand.tmp 216) 32, type := 4, pos := "law.go:88", after := #[{ on := 8, ground := Go.Ground.data }, { on := 14, ground := Go.Ground.data }, { on := 6, ground := Go.Ground.guard }], guard := some (6, true) }) (v := ?_) rfl (by kernel_rfl) (by kernel_rfl) (by kernel_rfl) (fun _ _ _ h => h) (Or.inl ⟨by rfl, ?_⟩) (by assumption) ?_
    rotate_left
    · (intro w hSw; (try dsimp only at hSw); go_simp; try with_reducible rfl)
    try simp only [Act.put, List.setIfInBounds_toArray, List.set_cons_zero, List.set_cons_succ]
    refine wpAnyH_take (i := 16) (oi := { dst := some 218, op := Go.Op.pick (Go.Operand.tmp 208) (Go.Operand.tmp 217) (Go.Operand.const (Go.Value.bool false)), type := 4, pos := "law.go:88", after := #[{ on := 6, ground := Go.Ground.data }, { on := 15, ground := Go.Ground.data }, { on := 4, ground := Go.Ground.guard }], guard := some (4, false) }) (v := ?_) rfl (by kernel_rfl) (by kernel_rfl) (by kernel_rfl) (fun _ _ _ h => h) (Or.inl ⟨by rfl, ?_⟩) (by assumption) ?_
    rotate_left
    · (intro w hSw; (try dsimp only at hSw); go_simp; try with_reducible rfl)
    try simp only [Act.put, List.setIfInBounds_toArray, List.set_cons_zero, List.set_cons_succ]
    refine wpAnyH_take (i := 17) (oi := { dst := some 219, op := Go.Op.pick (Go.Operand.tmp 206) (Go.Operand.const (Go.Value.bool true)) (Go.Operand.tmp 218), type := 4, pos := "law.go:88", after := #[{ on := 4, ground := Go.Ground.data }, { on := 16, ground := Go.Ground.data }], guard := none }) (v := ?_) rfl (by kernel_rfl) (by kernel_rfl) (by kernel_rfl) (fun _ _ _ h => h) (Or.inl ⟨by rfl, ?_⟩) (by assumption) ?_
    rotate_left
    · (intro w hSw; (try dsimp only at hSw); go_simp; try with_reducible rfl)
    try simp only [Act.put, List.setIfInBounds_toArray, List.set_cons_zero, List.set_cons_succ]
    refine wpAnyH_take (i := 18) (oi := { dst := some 220, op := Go.Op.move (Go.Operand.tmp 219), type := 4, pos := "law.go:88", after := #[{ on := 17, ground := Go.Ground.data }, { on := 8, ground := Go.Ground.chain }], guard := none }) (v := ?_) rfl (by kernel_rfl) (by kernel_rfl) (by kernel_rfl) (fun _ _ _ h => h) (Or.inl ⟨by rfl, ?_⟩) (by assumption) ?_
    rotate_left
    · (intro w hSw; (try dsimp only at hSw); go_simp; try with_reducible rfl)
    try simp only [Act.put, List.setIfInBounds_toArray, List.set_cons_zero, List.set_cons_succ]
    refine wpAnyH_take (i := 19) (oi := { dst := some 221, op := Go.Op.move (Go.Operand.tmp 22), type := 4, pos := "law.go:88", after := #[{ on := 18, ground := Go.Ground.guard }], guard := some (18, false) }) (v := ?_) rfl (by kernel_rfl) (by kernel_rfl) (by kernel_rfl) (fun _ _ _ h => h) (Or.inl ⟨by rfl, ?_⟩) (by assumption) ?_
    rotate_left
    · (intro w hSw; (try dsimp only at hSw); go_simp; try with_reducible rfl)
    try simp only [Act.put, List.setIfInBounds_toArray, List.set_cons_zero, List.set_cons_succ]
    refine wpAnyH_take (i := 20) (oi := { dst := some 222, op := Go.Op.unOp Go.UnOp.not 4 (Go.Operand.tmp 221), type := 4, pos := "law.go:88", after := #[{ on := 19, ground := Go.Ground.data }, { on := 18, ground := Go.Ground.guard }], guard := some (18, false) }) (v := ?_) rfl (by kernel_rfl) (by kernel_rfl) (by kernel_rfl) (fun _ _ _ h => h) (Or.inl ⟨by rfl, ?_⟩) (by assumption) ?_
    rotate_left
    · (intro w hSw; (try dsimp only at hSw); go_simp; try with_reducible rfl)
    try simp only [Act.put, List.setIfInBounds_toArray, List.set_cons_zero, List.set_cons_succ]
    refine wpAnyH_take (i := 21) (oi := { dst := some 223, op := Go.Op.move (Go.Operand.tmp 222), type := 4, pos := "law.go:88", after := #[{ on := 20, ground := Go.Ground.data }, { on := 18, ground := Go.Ground.chain }, { on := 18, ground := Go.Ground.guard }], guard := some (18, false) }) (v := ?_) rfl (by kernel_rfl) (by kernel_rfl) (by kernel_rfl) (fun _ _ _ h => h) (Or.inl ⟨by rfl, ?_⟩) (by assumption) ?_
    rotate_left
    · (intro w hSw; (try dsimp only at hSw); go_simp; try with_reducible rfl)
    try simp only [Act.put, List.setIfInBounds_toArray, List.set_cons_zero, List.set_cons_succ]
    refine wpAnyH_take (i := 22) (oi := { dst := some 224, op := Go.Op.move (Go.Operand.tmp 20), type := 41, pos := "law.go:88", after := #[{ on := 21, ground := Go.Ground.guard }], guard := some (21, true) }) (v := undef) rfl (by kernel_rfl) (by kernel_rfl) (by kernel_rfl) (fun _ _ _ h => h) (Or.inr ⟨by rfl, rfl⟩) (by assumption) ?_
    try simp only [Act.put, List.setIfInBounds_toArray, List.set_cons_zero, List.set_cons_succ]
    refine wpAnyH_take (i := 23) (oi := { dst := some 225, op := Go.Op.binOp Go.BinOp.neq 41 (Go.Operand.tmp 224) (Go.Operand.const Go.Value.nilIface) 41, type := 4, pos := "law.go:88", after := #[{ on := 22, ground := Go.Ground.data }, { on := 21, ground := Go.Ground.guard }], guard := some (21, true) }) (v := undef) rfl (by kernel_rfl) (by kernel_rfl) (by kernel_rfl) (fun _ _ _ h => h) (Or.inr ⟨by rfl, rfl⟩) (by assumption) ?_
    try simp only [Act.put, List.setIfInBounds_toArray, List.set_cons_zero, List.set_cons_succ]
    refine wpAnyH_take (i := 24) (oi := { dst := some 226, op := Go.Op.pick (Go.Operand.tmp 223) (Go.Operand.tmp 225) (Go.Operand.const (Go.Value.bool false)), type := 4, pos := "law.go:88", after := #[{ on := 21, ground := Go.Ground.data }, { on := 23, ground := Go.Ground.data }, { on := 18, ground := Go.Ground.guard }], guard := some (18, false) }) (v := ?_) rfl (by kernel_rfl) (by kernel_rfl) (by kernel_rfl) (fun _ _ _ h => h) (Or.inl ⟨by rfl, ?_⟩) (by assumption) ?_
    rotate_left
    · (intro w hSw; (try dsimp only at hSw); go_simp; try with_reducible rfl)
    try simp only [Act.put, List.setIfInBounds_toArray, List.set_cons_zero, List.set_cons_succ]
    refine wpAnyH_take (i := 25) (oi := { dst := some 227, op := Go.Op.pick (Go.Operand.tmp 220) (Go.Operand.const (Go.Value.bool true)) (Go.Operand.tmp 226), type := 4, pos := "law.go:88", after := #[{ on := 18, ground := Go.Ground.data }, { on := 24, ground := Go.Ground.data }], guard := none }) (v := ?_) rfl (by kernel_rfl) (by kernel_rfl) (by kernel_rfl) (fun _ _ _ h => h) (Or.inl ⟨by rfl, ?_⟩) (by assumption) ?_
    rotate_left
    · (intro w hSw; (try dsimp only at hSw); go_simp; try with_reducible rfl)
    try simp only [Act.put, List.setIfInBounds_toArray, List.set_cons_zero, List.set_cons_succ]
    refine wpAnyH_done (by kernel_rfl) ?_ _
    refine NoPanic.normal ?_
    all_goals
      have hP := (hC.below hB9).nil
      obtain ⟨m0, m1⟩ := hP.c7
      go_wp2_with (go_at_call 23; (with_reducible refine (cI hP).mono ?_); rintro e wz ⟨rfl, hbz⟩)
      exact HR.out _ _ _ _ _ _ _ _ _ _ _ _ _ _ _ _ _ _ _ _ _ _ _ _ _ _ _ _ _ _ _ _ _ _ _ _ _ _ _ _ _ _ _ _ _ _ _ _ _ _ _ _ _ _ _ _ _ _ _ _ _ _ _ _ _ _ _ _ _ _ _ _ _ _ _ _ _ _ _ _ _ _ _ _ _ _ _ _ _ _ _ _ _ _ _ _ _ _ _ _ _ _ _ _ _ _ _ _ _ _ _ _ _ _ _ _ _ _ _ _ _ _ _ _ _ _ _ _ _ _ _ _ _ _ _ _ _ _ _ _ _ _ _ _ _ _ _ _ _ _ _ _ _ _ _ _ _ _ _ _ _ _ _ _ _ _ _ _ _ _ _ _ _ _ _ _ _ _ _ _ _ _ _ _ _ _ _ _ _ _ _ _ _ _ _ _ _ _ _ _ _ _ _ _ _ _ _ _ _ _ _ _ _ _ _ _ _ _ _ _ _ _ _ _ _ _ _ _ _ _ _ _ _ _ _ _ _ _ _ _ _ _ _ _ (by first | exact (hP.below hbz) | exact Px.drew (hP.below hbz)) (HRL.out) (HG.out)
end Go.Proofs.Ytehechbiajbobaa
