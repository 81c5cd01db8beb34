/-
  MERGED (a claim has at most 60 files): DPK5.
-/
import Derived.Test.YtehechbiajbobaaZ28
import Derived.Deep.RegionHeld3
import Derived.Deep.CutRange
import Derived.Deep.CutBlock
/-
  DictPlays: an act of kind 5. (Out of dpcut.py.)
-/
namespace Go.Proofs.Ytehechbiajbobaa
open Go.RowKit
set_option linter.unusedVariables false
set_option linter.unusedSimpArgs false
set_option maxRecDepth 100000
set_option maxHeartbeats 64000000 in
theorem dp_kind5 {R : Act → World → Prop} {Q' : Exit → Act → World → Prop} {w1 : World} {d m g7 g9 i : Nat} {room : Int} {v5 : Value} {L : List Tm} {A5 : Option Addr} {c5 : Nat} {kd an kx ky kz sk pk qk k0 k1 k2 : Int} {sa sb sc pa pb pc qa qb qc a0 a1 a2 b0 b1 b2 c0 c1 c2 : ByteArray} {wc : World} {g10 : Nat} {ta tb tc : Tm} {tcv : Value} {f0 f1 f2 f3 f4 f6 f8 f11 f12 f13 f14 f15 f16 f17 f18 f19 f20 f21 f22 f23 f24 f25 f26 f27 f28 f29 f30 f31 f32 f33 f34 f35 f36 f37 f38 f39 f40 f41 f42 f43 f44 f45 f46 f47 f48 f49 f50 f51 f52 f53 f54 f55 f56 f57 f58 f59 f60 f61 f62 f63 f64 f65 f66 f67 f68 f69 f70 f71 f72 f73 f74 f75 f76 f77 f78 f79 f80 f81 f82 f83 f84 f85 f86 f87 f88 f89 f90 f91 f92 f93 f94 f95 f96 f97 f98 f99 f100 f101 f102 f103 f104 f105 f106 f107 f108 f109 f110 f111 f112 f113 f114 f115 f116 f117 f118 f119 f120 f121 f122 f123 f124 f125 f126 f127 f128 f129 f130 f131 f132 f133 f134 f135 f136 f137 f138 f139 f140 f141 f142 f143 f144 f145 f146 f147 f148 f149 f150 f151 f152 f153 f154 f155 f156 f157 f158 f159 f160 f161 f162 f163 f164 f165 f166 f167 f168 f169 f170 f171 f172 f173 f174 f175 f176 f177 f178 f179 f180 f181 f182 f183 f184 f185 f186 f187 f188 f189 f190 f191 f192 f193 f194 f195 f196 f197 f198 f199 f200 f201 f202 f203 f204 f205 f206 f207 f208 f209 f210 f211 f212 f213 f214 f215 f216 f217 f218 f219 f220 f221 f222 f223 f224 f225 f226 f227 f228 f229 f230 f231 f232 f233 f234 f235 f236 f237 f238 f239 f240 f241 f242 f243 f244 f245 f246 f247 f248 f249 f250 f251 f252 f253 f254 f255 f256 f257 f258 f259 f260 f261 f262 f263 f264 f265 f266 f267 f268 f269 f270 f271 f272 f273 f274 f275 f276 f277 f278 f279 f280 f281 f282 f283 f284 f285 f286 f287 f288 f289 f290 f291 f292 f293 f294 f295 f296 f297 f298 f299 f300 f301 f302 f303 f304 f305 f306 f307 : Value}
    (HI : Hid (i < 40)) (HG : Hid (Gok L)) (HLL : Hid (L.length ≤ 3 * i)) (FW : Hid (ta.few ∧ tb.few ∧ tc.few)) (KK : Hid (ta.kind < 3 ∧ tb.kind < 3 ∧ tc.kind < 3))
    (cR : ∀ w : World, Calls Try.prog 8 #[F4 k2 c0 c1 c2] w fun e w' => e = .returned tcv ∧ Below w.heap.size w w')
    (EA : Hid (k0 = ta.kind ∧ a0 = ta.ta ∧ a1 = ta.tb ∧ a2 = ta.tc)) (EB : Hid (k1 = tb.kind ∧ b0 = tb.ta ∧ b1 = tb.tb ∧ b2 = tb.tc)) (EC : Hid (k2 = tc.kind ∧ c0 = tc.ta ∧ c1 = tc.tb ∧ c2 = tc.tc))
    (HVA : Hid (tcv = tc.val)) (HKD : Hid (0 ≤ kd ∧ kd ≤ 255)) (HNB : Hid (i64b an ∧ i64b kx ∧ i64b ky ∧ i64b kz)) (HIF : Hid (∃ ty x, tc.val = Value.iface ty x))
    (hq : kd.tmod 7 = ((5 : Nat) : Int))
    (hC : Px w1 d m g7 room v5 L (.slice A5 L.length c5) [(g10, 34, #[.int .i64 k0, .string a0, .string a1, .string a2, .int .i64 k1, .string b0, .string b1, .string b2, .int .i64 k2, .string c0, .string c1, .string c2]), (g9, 37, #[.int .u8 kd, .int .i64 an, .int .i64 sk, .string sa, .string sb, .string sc, .int .i64 pk, .string pa, .string pb, .string pc, .int .i64 qk, .string qa, .string qb, .string qc, .int .i64 kx, .int .i64 ky, .int .i64 kz])] wc)
    (HR : Hid (∀ (e4 e11 e12 e13 e14 e15 e16 e17 e18 e19 e20 e21 e22 e23 e24 e25 e26 e27 e28 e29 e30 e31 e32 e33 e92 e93 e94 e95 e96 e97 e98 e99 e100 e101 e102 e103 e104 e105 e106 e107 e108 e109 e110 e111 e112 e113 e114 e115 e116 e117 e118 e119 e120 e121 e122 e123 e124 e125 e126 e127 e128 e129 e130 e131 e132 e133 e134 e135 e136 e137 e138 e139 e140 e141 e142 e143 e144 e145 e146 e147 e148 e149 e150 e151 e152 e153 e154 e155 e156 e157 e158 e159 e160 e161 e162 e163 e164 e165 e166 e167 e168 e169 e170 e171 e172 e173 e174 e175 e176 e177 e178 e179 e180 e181 e182 e183 e184 e185 e186 e187 e188 e189 e190 e191 e192 e193 e194 e195 e196 e197 e198 e199 e200 e201 e202 e203 e204 e205 e206 e207 e208 e209 e210 e211 e212 e213 e214 e215 e216 e217 e218 e219 e220 e221 e222 e223 e224 e225 e226 e227 e228 e229 e230 e231 e232 e233 e234 e235 e236 e237 e238 e239 e240 e241 e242 e243 e244 e245 e246 e247 e248 e249 e250 e251 e252 e253 e254 e255 e256 e257 e258 e259 e260 e261 e262 e263 e264 e265 e266 e267 e268 e269 e270 e271 e272 e273 e274 e275 e276 e277 e278 e279 e280 e281 e282 e283 e284 e285 e286 e287 e288 e289 e290 e291 e292 e293 e294 e295 e296 e297 e298 e299 e300 e301 e302 e303 e304 e305 e306 e307 : Value) (v u : Value) (L' : List Tm) (W : World), Px w1 d m g7 room v L' u [] W → L'.length ≤ 3 * i + 3 → Gok L' → R ⟨(f0 :: f1 :: f2 :: f3 :: e4 :: .pointer (some ⟨d, 0, none⟩) :: f6 :: .pointer (some ⟨g7, 0, none⟩) :: f8 :: .pointer (some ⟨g9, 0, none⟩) :: .pointer (some ⟨g10, 0, none⟩) :: e11 :: e12 :: e13 :: e14 :: e15 :: e16 :: e17 :: e18 :: e19 :: e20 :: e21 :: e22 :: e23 :: e24 :: e25 :: e26 :: e27 :: e28 :: e29 :: e30 :: e31 :: e32 :: e33 :: f34 :: f35 :: f36 :: f37 :: f38 :: f39 :: f40 :: f41 :: f42 :: f43 :: f44 :: f45 :: f46 :: f47 :: f48 :: f49 :: f50 :: f51 :: f52 :: f53 :: f54 :: f55 :: f56 :: f57 :: f58 :: f59 :: f60 :: f61 :: f62 :: f63 :: f64 :: f65 :: f66 :: f67 :: f68 :: f69 :: f70 :: f71 :: f72 :: f73 :: f74 :: f75 :: f76 :: f77 :: f78 :: f79 :: f80 :: f81 :: f82 :: f83 :: f84 :: f85 :: f86 :: f87 :: f88 :: f89 :: f90 :: f91 :: e92 :: e93 :: e94 :: e95 :: e96 :: e97 :: e98 :: e99 :: e100 :: e101 :: e102 :: e103 :: e104 :: e105 :: e106 :: e107 :: e108 :: e109 :: e110 :: e111 :: e112 :: e113 :: e114 :: e115 :: e116 :: e117 :: e118 :: e119 :: e120 :: e121 :: e122 :: e123 :: e124 :: e125 :: e126 :: e127 :: e128 :: e129 :: e130 :: e131 :: e132 :: e133 :: e134 :: e135 :: e136 :: e137 :: e138 :: e139 :: e140 :: e141 :: e142 :: e143 :: e144 :: e145 :: e146 :: e147 :: e148 :: e149 :: e150 :: e151 :: e152 :: e153 :: e154 :: e155 :: e156 :: e157 :: e158 :: e159 :: e160 :: e161 :: e162 :: e163 :: e164 :: e165 :: e166 :: e167 :: e168 :: e169 :: e170 :: e171 :: e172 :: e173 :: e174 :: e175 :: e176 :: e177 :: e178 :: e179 :: e180 :: e181 :: e182 :: e183 :: e184 :: e185 :: e186 :: e187 :: e188 :: e189 :: e190 :: e191 :: e192 :: e193 :: e194 :: e195 :: e196 :: e197 :: e198 :: e199 :: e200 :: e201 :: e202 :: e203 :: e204 :: e205 :: e206 :: e207 :: e208 :: e209 :: e210 :: e211 :: e212 :: e213 :: e214 :: e215 :: e216 :: e217 :: e218 :: e219 :: e220 :: e221 :: e222 :: e223 :: e224 :: e225 :: e226 :: e227 :: e228 :: e229 :: e230 :: e231 :: e232 :: e233 :: e234 :: e235 :: e236 :: e237 :: e238 :: e239 :: e240 :: e241 :: e242 :: e243 :: e244 :: e245 :: e246 :: e247 :: e248 :: e249 :: e250 :: e251 :: e252 :: e253 :: e254 :: e255 :: e256 :: e257 :: e258 :: e259 :: e260 :: e261 :: e262 :: e263 :: e264 :: e265 :: e266 :: e267 :: e268 :: e269 :: e270 :: e271 :: e272 :: e273 :: e274 :: e275 :: e276 :: e277 :: e278 :: e279 :: e280 :: e281 :: e282 :: e283 :: e284 :: e285 :: e286 :: e287 :: e288 :: e289 :: e290 :: e291 :: e292 :: e293 :: e294 :: e295 :: e296 :: e297 :: e298 :: e299 :: e300 :: e301 :: e302 :: e303 :: e304 :: e305 :: e306 :: e307 :: []).toArray, []⟩ W)) :
    Code.wp Try.prog dpRest (Exit.then R Q') ⟨(f0 :: f1 :: f2 :: f3 :: f4 :: .pointer (some ⟨d, 0, none⟩) :: f6 :: .pointer (some ⟨g7, 0, none⟩) :: f8 :: .pointer (some ⟨g9, 0, none⟩) :: .pointer (some ⟨g10, 0, none⟩) :: f11 :: f12 :: f13 :: f14 :: f15 :: f16 :: f17 :: f18 :: f19 :: f20 :: f21 :: f22 :: f23 :: f24 :: f25 :: f26 :: f27 :: f28 :: f29 :: f30 :: f31 :: f32 :: f33 :: f34 :: f35 :: f36 :: f37 :: f38 :: f39 :: f40 :: f41 :: f42 :: f43 :: f44 :: f45 :: f46 :: f47 :: f48 :: f49 :: f50 :: f51 :: f52 :: f53 :: f54 :: f55 :: f56 :: f57 :: f58 :: f59 :: f60 :: f61 :: f62 :: f63 :: f64 :: f65 :: f66 :: f67 :: f68 :: f69 :: f70 :: f71 :: f72 :: f73 :: f74 :: f75 :: f76 :: f77 :: f78 :: f79 :: f80 :: f81 :: f82 :: f83 :: f84 :: f85 :: f86 :: f87 :: f88 :: f89 :: f90 :: f91 :: f92 :: f93 :: f94 :: f95 :: f96 :: f97 :: f98 :: f99 :: f100 :: f101 :: f102 :: f103 :: f104 :: f105 :: f106 :: f107 :: f108 :: f109 :: f110 :: f111 :: f112 :: f113 :: f114 :: f115 :: f116 :: f117 :: f118 :: f119 :: f120 :: f121 :: f122 :: f123 :: f124 :: f125 :: f126 :: f127 :: f128 :: f129 :: f130 :: f131 :: f132 :: f133 :: f134 :: f135 :: f136 :: f137 :: f138 :: f139 :: f140 :: f141 :: f142 :: f143 :: f144 :: f145 :: f146 :: f147 :: f148 :: f149 :: f150 :: f151 :: f152 :: f153 :: f154 :: f155 :: f156 :: f157 :: f158 :: f159 :: f160 :: f161 :: f162 :: f163 :: f164 :: f165 :: f166 :: f167 :: f168 :: f169 :: f170 :: f171 :: f172 :: f173 :: f174 :: f175 :: f176 :: f177 :: f178 :: f179 :: f180 :: f181 :: f182 :: f183 :: f184 :: f185 :: f186 :: f187 :: f188 :: f189 :: f190 :: f191 :: f192 :: f193 :: f194 :: f195 :: f196 :: f197 :: f198 :: f199 :: f200 :: f201 :: f202 :: f203 :: f204 :: f205 :: f206 :: f207 :: f208 :: f209 :: f210 :: f211 :: f212 :: f213 :: f214 :: f215 :: f216 :: f217 :: f218 :: f219 :: f220 :: f221 :: f222 :: f223 :: f224 :: f225 :: f226 :: f227 :: f228 :: f229 :: f230 :: f231 :: f232 :: f233 :: f234 :: f235 :: f236 :: f237 :: f238 :: f239 :: f240 :: f241 :: f242 :: f243 :: f244 :: f245 :: f246 :: f247 :: f248 :: f249 :: f250 :: f251 :: f252 :: f253 :: f254 :: f255 :: f256 :: f257 :: f258 :: f259 :: f260 :: f261 :: f262 :: f263 :: f264 :: f265 :: f266 :: f267 :: f268 :: f269 :: f270 :: f271 :: f272 :: f273 :: f274 :: f275 :: f276 :: f277 :: f278 :: f279 :: f280 :: f281 :: f282 :: f283 :: f284 :: f285 :: f286 :: f287 :: f288 :: f289 :: f290 :: f291 :: f292 :: f293 :: f294 :: f295 :: f296 :: f297 :: f298 :: f299 :: f300 :: f301 :: f302 :: f303 :: f304 :: f305 :: f306 :: f307 :: []).toArray, []⟩ wc := by
  conv => arg 2; whnf
  obtain ⟨m0, m1⟩ := hC.c7; obtain ⟨t0, t1, t2, t3, t4, t5, t6, t7, t8, t9, t10, t11⟩ := hC.c12; have hax := hC.bx _ (.tail _ (.head _)); dsimp only at hax; have g0 := hax.cell 0; have g1 := hax.cell 1; have g14 := hax.cell 14; have g15 := hax.cell 15; have g16 := hax.cell 16; clear hax
  have cI : ∀ {v u : Value} {W : World}, Px w1 d m g7 room v L u [] W → Calls Try.prog 23 #[.pointer (some ⟨d, 0, none⟩), .agg #[.int .i64 room, u]] W fun e w' => e = .returned (.bool true) ∧ Below W.heap.size W w' := fun {v u W} h => dis_any h.dc h.dl (fun t ht => (HG.out t ht).1) (fun t ht => (HG.out t ht).2) (by have := HLL.out; have := HI.out; omega) room
  have HRL := Lib.hid (show L.length ≤ 3 * i + 3 from by have := HLL.out; omega)
  obtain ⟨ty, xv, hif⟩ := HIF.out
  rw [← HVA.out] at hif
  have cD : ∀ {l : List (Nat × TypeId × Array Value)} {W : World}, Px w1 d m g7 room v5 L (.slice A5 L.length c5) l W → Calls Try.prog 19 #[.pointer (some ⟨d, 0, none⟩), .agg #[.int .i64 kx, .int .i64 ky, .int .i64 kz]] W (TriPost W (tripD L kx ky kz)) := fun {l W} h => dtriple_any h.dc (by have := HLL.out; have := HI.out; omega) (fun t ht => (HG.out t ht).2) kx ky kz
  have cE : ∀ {l : List (Nat × TypeId × Array Value)} {W : World}, Px w1 d m g7 room v5 L (.slice A5 L.length c5) l W → Calls Try.prog 18 #[.agg #[.int .i64 room, .slice A5 L.length c5], .agg #[.int .i64 kx, .int .i64 ky, .int .i64 kz]] W (ETriPost W (tripD L kx ky kz)) := fun {l W} h => etriple_any h.dl (by have := HLL.out; have := HI.out; omega) (fun t ht => (HG.out t ht).2) room kx ky kz
  subst hif
  have tt1 : 57 ≠ 78 := by decide
  have tt2 : 57 ≠ 41 := by decide
  have rr1 : 34 ≠ 78 := by decide
  have rr2 : 34 ≠ 41 := by decide
  unfold TriPost at cD
  unfold ETriPost at cE
  rcases tripD_ok (L := L) (x := kx) (y := ky) (z := kz) with ⟨tu, tv, tx, ht, hu, hv, hx⟩ | ht | ht
  · rw [ht] at cD cE
    dsimp only at cD cE
    have cE2 : ∀ {l : List (Nat × TypeId × Array Value)} {W : World}, Px w1 d m g7 room v5 L (.slice A5 L.length c5) l W → Calls Try.prog 18 #[.agg #[.int .i64 room, .slice A5 L.length c5], .agg #[.int .i64 kx, .int .i64 ky, .int .i64 kz]] W fun e w' => e = .returned (.tuple #[T12 tu tv tx, .int .i64 0]) ∧ Below W.heap.size W w' := fun {l W} h => (cE h).mono fun e w' ⟨a, b, c, h1, h2, h3⟩ => by
      have h4 := h2 rfl
      injection h4 with h5 h6
      injection h6 with h6 h7
      rw [h5, h6, h7]
      exact ⟨h1, h3⟩
    have ku := d_good_kind (HG.out tu hu).1
    have kv := d_good_kind (HG.out tv hv).1
    have kw := d_good_kind (HG.out tx hx).1
    have hot := fun (W : World) => one_trs W tu tv tx
    have hod := fun (W : World) => one_dtv W tu tv tx
    have cIs0 : ∀ (W : World) (g g' : Nat) (B B' : Nat), TrsV B W (.slice (some ⟨g, 0, none⟩) 1 1) [[tu, tv, tx]] → DtV B' W (.slice (some ⟨g', 0, none⟩) 1 1) [[tu, tv, tx]] → Calls Try.prog 20 #[.slice (some ⟨g, 0, none⟩) 1 1, .slice (some ⟨g', 0, none⟩) 1 1] W fun e w' => e = .returned (.bool true) ∧ Below W.heap.size W w' := fun W g g' B B' h1 h2 =>
      nis_same [[tu, tv, tx]] (fun ts hts => by
        obtain rfl : ts = [tu, tv, tx] := by simpa using hts
        exact ⟨rfl, fun y hy => by simp at hy; rcases hy with rfl | rfl | rfl <;> first | exact ku | exact kv | exact kw⟩) (by simp) W h1 h2
    obtain ⟨tyu, xvu, hvu⟩ := iface_of ku
    obtain ⟨tyv, xvv, hvv⟩ := iface_of kv
    obtain ⟨tyw, xvw, hvw⟩ := iface_of kw
    unfold T12 at cE2
    rw [hvu, hvv, hvw] at cD hot
    generalize tu.kind = x00 at *
    generalize tu.ta = x01 at *
    generalize tu.tb = x02 at *
    generalize tu.tc = x03 at *
    generalize tv.kind = x10 at *
    generalize tv.ta = x11 at *
    generalize tv.tb = x12 at *
    generalize tv.tc = x13 at *
    generalize tx.kind = x20 at *
    generalize tx.ta = x21 at *
    generalize tx.tb = x22 at *
    generalize tx.tc = x23 at *
    have cIs2 : ∀ (W : World) (N : Nat), N = W.heap.size → Calls Try.prog 20 #[.slice (some ⟨N, 0, none⟩) 1 1, .slice (some ⟨N + 1, 0, none⟩) 1 1] ((W.alloc (.cells #[.iface tyu xvu, .iface tyv xvv, .iface tyw xvw] 57)).alloc (.cells #[.int .i64 x00, .string x01, .string x02, .string x03, .int .i64 x10, .string x11, .string x12, .string x13, .int .i64 x20, .string x21, .string x22, .string x23] 34)) fun e w' => e = .returned (.bool true) ∧ Below ((W.alloc (.cells #[.iface tyu xvu, .iface tyv xvv, .iface tyw xvw] 57)).alloc (.cells #[.int .i64 x00, .string x01, .string x02, .string x03, .int .i64 x10, .string x11, .string x12, .string x13, .int .i64 x20, .string x21, .string x22, .string x23] 34)).heap.size ((W.alloc (.cells #[.iface tyu xvu, .iface tyv xvv, .iface tyw xvw] 57)).alloc (.cells #[.int .i64 x00, .string x01, .string x02, .string x03, .int .i64 x10, .string x11, .string x12, .string x13, .int .i64 x20, .string x21, .string x22, .string x23] 34)) w' := fun W N hN => by
      subst hN
      have h1 := (hot W).below ((Below.refl _ _).alloc (Nat.le_refl _) (.cells #[.int .i64 x00, .string x01, .string x02, .string x03, .int .i64 x10, .string x11, .string x12, .string x13, .int .i64 x20, .string x21, .string x22, .string x23] 34))
      have h2 := hod (W.alloc (.cells #[.iface tyu xvu, .iface tyv xvv, .iface tyw xvw] 57))
      have e : (W.alloc (.cells #[.iface tyu xvu, .iface tyv xvv, .iface tyw xvw] 57)).heap.size = W.heap.size + 1 := by simp
      rw [e] at h2
      exact cIs0 _ _ _ _ _ h1 h2
    clear hot hod cIs0 hvu hvv hvw ku kv kw ht hu hv hx cE
    go_wp2_with (first
      | (go_at_call 8; (with_reducible refine (cR _).mono ?_); rintro e w9 ⟨rfl, hb9⟩; have hC9 := hC.below hb9; obtain ⟨m0, m1⟩ := hC9.c7; obtain ⟨t0, t1, t2, t3, t4, t5, t6, t7, t8, t9, t10, t11⟩ := hC9.c12; have hax := hC9.bx _ (.tail _ (.head _)); dsimp only at hax; have g0 := hax.cell 0; have g1 := hax.cell 1; have g14 := hax.cell 14; have g15 := hax.cell 15; have g16 := hax.cell 16; clear hax)
      | (go_at_call 18; (with_reducible refine (cE2 hC9).mono ?_); rintro e wA ⟨rfl, hbA⟩; have hCA := (hC9.below hbA).add 34 #[.int .i64 x00, .string x01, .string x02, .string x03, .int .i64 x10, .string x11, .string x12, .string x13, .int .i64 x20, .string x21, .string x22, .string x23] rr1 rr2; have hax := hCA.bx _ (.tail _ (.tail _ (.head _))); dsimp only at hax; have g14 := hax.cell 14; have g15 := hax.cell 15; have g16 := hax.cell 16)
      | (go_at_call 19; (with_reducible refine (cD hCA).mono ?_); rintro e wB ⟨rfl, hbB⟩; have hCB := (hCA.below hbB).add 57 #[.iface tyu xvu, .iface tyv xvv, .iface tyw xvw] tt1 tt2; obtain ⟨t0, t1, t2, t3, t4, t5, t6, t7, t8, t9, ta', tb'⟩ := hCB.tail.c12; have hbk := hCB.bx _ (.head _); have hbl := hCB.bx _ (.tail _ (.head _)); dsimp only at hbk hbl; have e0 := hbk.cell 0; have e1 := hbk.cell 1; have e2 := hbk.cell 2; have el := hbk.lt; have fl := hbl.lt; have fl2 : wA.heap.size < wB.heap.size + 1 := (by have := hbl.lt; rwa [World.size_alloc] at this); have fn2 : ¬ wA.heap.size = wB.heap.size + 1 := (by omega))
      | (go_at_call 20; (with_reducible refine (cIs2 _ _ (by simp)).mono ?_); rintro e wC ⟨rfl, hbC⟩; have hP := (((hCB.alloc (.cells #[.iface tyu xvu, .iface tyv xvv, .iface tyw xvw] 57)).alloc (.cells #[.int .i64 x00, .string x01, .string x02, .string x03, .int .i64 x10, .string x11, .string x12, .string x13, .int .i64 x20, .string x21, .string x22, .string x23] 34)).below hbC).nil; obtain ⟨z0, z1⟩ := hP.c7)
      | (go_at_call 23; (with_reducible refine (cI hP).mono ?_); rintro e wz ⟨rfl, hbz⟩))
    exact HR.out _ _ _ _ _ _ _ _ _ _ _ _ _ _ _ _ _ _ _ _ _ _ _ _ _ _ _ _ _ _ _ _ _ _ _ _ _ _ _ _ _ _ _ _ _ _ _ _ _ _ _ _ _ _ _ _ _ _ _ _ _ _ _ _ _ _ _ _ _ _ _ _ _ _ _ _ _ _ _ _ _ _ _ _ _ _ _ _ _ _ _ _ _ _ _ _ _ _ _ _ _ _ _ _ _ _ _ _ _ _ _ _ _ _ _ _ _ _ _ _ _ _ _ _ _ _ _ _ _ _ _ _ _ _ _ _ _ _ _ _ _ _ _ _ _ _ _ _ _ _ _ _ _ _ _ _ _ _ _ _ _ _ _ _ _ _ _ _ _ _ _ _ _ _ _ _ _ _ _ _ _ _ _ _ _ _ _ _ _ _ _ _ _ _ _ _ _ _ _ _ _ _ _ _ _ _ _ _ _ _ _ _ _ _ _ _ _ _ _ _ _ _ _ _ _ _ _ _ _ _ _ _ _ _ _ _ _ _ _ _ _ _ _ _ (by first | exact (hP.below hbz) | exact Px.drew (hP.below hbz)) (HRL.out) (HG.out)
  · rw [ht] at cD cE
    dsimp only at cD cE
    simp only [Tm.val] at cD
    unfold T12 at cE
    clear ht
    go_wp2_with (first
      | (go_at_call 8; (with_reducible refine (cR _).mono ?_); rintro e w9 ⟨rfl, hb9⟩; have hC9 := hC.below hb9; obtain ⟨m0, m1⟩ := hC9.c7; obtain ⟨t0, t1, t2, t3, t4, t5, t6, t7, t8, t9, t10, t11⟩ := hC9.c12; have hax := hC9.bx _ (.tail _ (.head _)); dsimp only at hax; have g0 := hax.cell 0; have g1 := hax.cell 1; have g14 := hax.cell 14; have g15 := hax.cell 15; have g16 := hax.cell 16; clear hax)
      | (go_at_call 18; (with_reducible refine (cE hC9).mono ?_); rintro e wA ⟨tu, tv, tx, rfl, _, hbA⟩; have hCA := (hC9.below hbA).add 34 #[.int .i64 tu.kind, .string tu.ta, .string tu.tb, .string tu.tc, .int .i64 tv.kind, .string tv.ta, .string tv.tb, .string tv.tc, .int .i64 tx.kind, .string tx.ta, .string tx.tb, .string tx.tc] rr1 rr2; have hax := hCA.bx _ (.tail _ (.tail _ (.head _))); dsimp only at hax; have g14 := hax.cell 14; have g15 := hax.cell 15; have g16 := hax.cell 16)
      | (go_at_call 19; (with_reducible refine (cD hCA).mono ?_); rintro e wB ⟨rfl, hbB⟩; have hCB := (hCA.below hbB).add 57 #[.nilIface, .nilIface, .nilIface] tt1 tt2; have hP := hCB.nil; obtain ⟨z0, z1⟩ := hP.c7; have hbk := hCB.bx _ (.head _); dsimp only at hbk; have e0 := hbk.cell 0; have e1 := hbk.cell 1; have e2 := hbk.cell 2)
      | (go_at_call 23; (with_reducible refine (cI hP).mono ?_); rintro e wz ⟨rfl, hbz⟩))
    exact HR.out _ _ _ _ _ _ _ _ _ _ _ _ _ _ _ _ _ _ _ _ _ _ _ _ _ _ _ _ _ _ _ _ _ _ _ _ _ _ _ _ _ _ _ _ _ _ _ _ _ _ _ _ _ _ _ _ _ _ _ _ _ _ _ _ _ _ _ _ _ _ _ _ _ _ _ _ _ _ _ _ _ _ _ _ _ _ _ _ _ _ _ _ _ _ _ _ _ _ _ _ _ _ _ _ _ _ _ _ _ _ _ _ _ _ _ _ _ _ _ _ _ _ _ _ _ _ _ _ _ _ _ _ _ _ _ _ _ _ _ _ _ _ _ _ _ _ _ _ _ _ _ _ _ _ _ _ _ _ _ _ _ _ _ _ _ _ _ _ _ _ _ _ _ _ _ _ _ _ _ _ _ _ _ _ _ _ _ _ _ _ _ _ _ _ _ _ _ _ _ _ _ _ _ _ _ _ _ _ _ _ _ _ _ _ _ _ _ _ _ _ _ _ _ _ _ _ _ _ _ _ _ _ _ _ _ _ _ _ _ _ _ _ _ _ (by first | exact (hP.below hbz) | exact Px.drew (hP.below hbz)) (HRL.out) (HG.out)
  · rw [ht] at cD cE
    dsimp only at cD cE
    simp only [Tm.val] at cD
    unfold T12 at cE
    clear ht
    go_wp2_with (first
      | (go_at_call 8; (with_reducible refine (cR _).mono ?_); rintro e w9 ⟨rfl, hb9⟩; have hC9 := hC.below hb9; obtain ⟨m0, m1⟩ := hC9.c7; obtain ⟨t0, t1, t2, t3, t4, t5, t6, t7, t8, t9, t10, t11⟩ := hC9.c12; have hax := hC9.bx _ (.tail _ (.head _)); dsimp only at hax; have g0 := hax.cell 0; have g1 := hax.cell 1; have g14 := hax.cell 14; have g15 := hax.cell 15; have g16 := hax.cell 16; clear hax)
      | (go_at_call 18; (with_reducible refine (cE hC9).mono ?_); rintro e wA ⟨tu, tv, tx, rfl, _, hbA⟩; have hCA := (hC9.below hbA).add 34 #[.int .i64 tu.kind, .string tu.ta, .string tu.tb, .string tu.tc, .int .i64 tv.kind, .string tv.ta, .string tv.tb, .string tv.tc, .int .i64 tx.kind, .string tx.ta, .string tx.tb, .string tx.tc] rr1 rr2; have hax := hCA.bx _ (.tail _ (.tail _ (.head _))); dsimp only at hax; have g14 := hax.cell 14; have g15 := hax.cell 15; have g16 := hax.cell 16)
      | (go_at_call 19; (with_reducible refine (cD hCA).mono ?_); rintro e wB ⟨rfl, hbB⟩; have hCB := (hCA.below hbB).add 57 #[.nilIface, .nilIface, .nilIface] tt1 tt2; have hP := hCB.nil; obtain ⟨z0, z1⟩ := hP.c7; have hbk := hCB.bx _ (.head _); dsimp only at hbk; have e0 := hbk.cell 0; have e1 := hbk.cell 1; have e2 := hbk.cell 2)
      | (go_at_call 23; (with_reducible refine (cI hP).mono ?_); rintro e wz ⟨rfl, hbz⟩))
    exact HR.out _ _ _ _ _ _ _ _ _ _ _ _ _ _ _ _ _ _ _ _ _ _ _ _ _ _ _ _ _ _ _ _ _ _ _ _ _ _ _ _ _ _ _ _ _ _ _ _ _ _ _ _ _ _ _ _ _ _ _ _ _ _ _ _ _ _ _ _ _ _ _ _ _ _ _ _ _ _ _ _ _ _ _ _ _ _ _ _ _ _ _ _ _ _ _ _ _ _ _ _ _ _ _ _ _ _ _ _ _ _ _ _ _ _ _ _ _ _ _ _ _ _ _ _ _ _ _ _ _ _ _ _ _ _ _ _ _ _ _ _ _ _ _ _ _ _ _ _ _ _ _ _ _ _ _ _ _ _ _ _ _ _ _ _ _ _ _ _ _ _ _ _ _ _ _ _ _ _ _ _ _ _ _ _ _ _ _ _ _ _ _ _ _ _ _ _ _ _ _ _ _ _ _ _ _ _ _ _ _ _ _ _ _ _ _ _ _ _ _ _ _ _ _ _ _ _ _ _ _ _ _ _ _ _ _ _ _ _ _ _ _ _ _ _ (by first | exact (hP.below hbz) | exact Px.drew (hP.below hbz)) (HRL.out) (HG.out)
end Go.Proofs.Ytehechbiajbobaa
