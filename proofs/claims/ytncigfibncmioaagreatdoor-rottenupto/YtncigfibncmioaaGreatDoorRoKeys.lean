/-
  PROVED HERE: nothing of the program: the plain mathematics of the hash, by numbers: the functions by which the walks say what the program's hash reckons, and small facts on their sizes.
-/
namespace Go.Proofs.YtncigfibncmioaaGreatDoor.Sha
def rotr (x r:Nat):Nat:=x * 2 ^ (32 - r) % 4294967296 ||| x / 2 ^ r
def big3 (x a b c:Nat):Nat:=rotr x a ^^^ rotr x b ^^^ rotr x c
def sm3 (x a b c:Nat):Nat:=rotr x a ^^^ rotr x b ^^^ x / 2 ^ c
def chs (e f g:Nat):Nat:=(e &&& f) ^^^ ((4294967295 - e) &&& g)
def maj (a b c:Nat):Nat:=(a &&& b) ^^^ (a &&& c) ^^^ (b &&& c)
theorem rotr_lt {x r:Nat} (hx:x < 4294967296):rotr x r < 4294967296:=by
 unfold rotr
 have h1:x * 2 ^ (32 - r) % 4294967296 < 2 ^ 32:=by have:=Nat.mod_lt (x * 2 ^ (32 - r)) (show 0 < 4294967296 by omega);omega
 have h2:x / 2 ^ r < 2 ^ 32:=by have:=Nat.div_le_self x (2 ^ r);omega
 have:=Nat.or_lt_two_pow h1 h2
 omega
theorem xor_lt {a b:Nat} (ha:a < 4294967296) (hb:b < 4294967296):a ^^^ b < 4294967296:=by
 have:=Nat.xor_lt_two_pow (x:=a) (y:=b) (n:=32) (by omega) (by omega)
 omega
theorem and_lt {a b:Nat} (ha:a < 4294967296):a &&& b < 4294967296:=by
 have:=Nat.and_le_left (n:=a) (m:=b)
 omega
theorem div_lt {a r:Nat} (ha:a < 4294967296):a / 2 ^ r < 4294967296:=by have:=Nat.div_le_self a (2 ^ r);omega
structure St where
 a:Nat
 b:Nat
 c:Nat
 d:Nat
 e:Nat
 f:Nat
 g:Nat
 h:Nat
structure St.Ok (s:St):Prop where
 a:s.a < 4294967296
 b:s.b < 4294967296
 c:s.c < 4294967296
 d:s.d < 4294967296
 e:s.e < 4294967296
 f:s.f < 4294967296
 g:s.g < 4294967296
 h:s.h < 4294967296
def tOf (s:St) (k w:Nat):Nat:=(s.h + big3 s.e 6 11 25 + chs s.e s.f s.g + k + w) % 4294967296
def uOf (s:St):Nat:=(big3 s.a 2 13 22 + maj s.a s.b s.c) % 4294967296
def step (s:St) (k w:Nat):St:=⟨(tOf s k w + uOf s) % 4294967296,s.a,s.b,s.c,(s.d + tOf s k w) % 4294967296,s.e,s.f,s.g⟩
theorem step_ok {s:St} (h:s.Ok) (k w:Nat):(step s k w).Ok :=
 ⟨Nat.mod_lt _ (by omega),h.a,h.b,h.c,Nat.mod_lt _ (by omega),h.e,h.f,h.g⟩
def add (s v:St):St:=⟨(s.a + v.a) % 4294967296,(s.b + v.b) % 4294967296,(s.c + v.c) % 4294967296,(s.d + v.d) % 4294967296,(s.e + v.e) % 4294967296,(s.f + v.f) % 4294967296,(s.g + v.g) % 4294967296,(s.h + v.h) % 4294967296⟩
theorem add_ok (s v:St):(add s v).Ok:=⟨Nat.mod_lt _ (by omega),Nat.mod_lt _ (by omega),Nat.mod_lt _ (by omega),Nat.mod_lt _ (by omega),Nat.mod_lt _ (by omega),Nat.mod_lt _ (by omega),Nat.mod_lt _ (by omega),Nat.mod_lt _ (by omega)⟩
def kTab:List Nat:=[1116352408,1899447441,3049323471,3921009573,961987163,1508970993,2453635748,2870763221,3624381080,310598401,607225278,1426881987,1925078388,2162078206,2614888103,3248222580,3835390401,4022224774,264347078,604807628,770255983,1249150122,1555081692,1996064986,2554220882,2821834349,2952996808,3210313671,3336571891,3584528711,113926993,338241895,666307205,773529912,1294757372,1396182291,1695183700,1986661051,2177026350,2456956037,2730485921,2820302411,3259730800,3345764771,3516065817,3600352804,4094571909,275423344,430227734,506948616,659060556,883997877,958139571,1322822218,1537002063,1747873779,1955562222,2024104815,2227730452,2361852424,2428436474,2756734187,3204031479,3329325298]
def roundsTo (ws:List Nat) (v:St):Nat → St
 | 0=>v
 | k + 1=>step (roundsTo ws v k) (kTab.getD k 0) (ws.getD k 0)
theorem roundsTo_ok {ws:List Nat} {v:St} (h:v.Ok) (k:Nat):(roundsTo ws v k).Ok:=by
 induction k with
 | zero=>exact h
 | succ k ih=>exact step_ok ih _ _
def word4 (a b c d:Nat):Nat:=((a * 16777216 ||| b * 65536) ||| c * 256) ||| d
def byteAt (bs:List UInt8) (i:Nat):Nat:=(bs.getD i 0).toNat
def wordAt (bs:List UInt8) (i:Nat):Nat:=word4 (byteAt bs (4 * i)) (byteAt bs (4 * i + 1)) (byteAt bs (4 * i + 2)) (byteAt bs (4 * i + 3))
def wNext (ws:List Nat) (i:Nat):Nat:=(sm3 (ws.getD (i - 2) 0) 17 19 10 + ws.getD (i - 7) 0 + sm3 (ws.getD (i - 15) 0) 7 18 3 + ws.getD (i - 16) 0) % 4294967296
def zeros (n:Nat):List Nat:=List.replicate n 0
theorem zeros_len (n:Nat):(zeros n).length = n:=by simp [zeros]
def wOne (bs:List UInt8):Nat → List Nat
 | 0=>zeros 64
 | k + 1=>(wOne bs k).set k (wordAt bs k)
def wTwo (bs:List UInt8):Nat → List Nat
 | 0=>wOne bs 16
 | k + 1=>(wTwo bs k).set (k + 16) (wNext (wTwo bs k) (k + 16))
def words (bs:List UInt8):List Nat:=wTwo bs 48
def block (s:St) (bs:List UInt8):St:=add s (roundsTo (words bs) s 64)
theorem wOne_len (bs:List UInt8) (k:Nat):(wOne bs k).length = 64:=by
 induction k with
 | zero=>simp [wOne,zeros]
 | succ k ih=>simp [wOne,ih]
theorem wTwo_len (bs:List UInt8) (k:Nat):(wTwo bs k).length = 64:=by
 induction k with
 | zero=>exact wOne_len bs 16
 | succ k ih=>simp [wTwo,ih]
theorem words_len (bs:List UInt8):(words bs).length = 64:=wTwo_len bs 48
def addTo (l m:List Nat):Nat → List Nat
 | 0=>l
 | i + 1=>(addTo l m i).set i ((l.getD i 0 + m.getD i 0) % 4294967296)
theorem addTo_len (l m:List Nat) (i:Nat):(addTo l m i).length = l.length:=by
 induction i with
 | zero=>rfl
 | succ i ih=>simp [addTo,ih]
theorem addTo_past (l m:List Nat) (i j:Nat) (h:i ≤ j):(addTo l m i).getD j 0 = l.getD j 0:=by
 induction i with
 | zero=>rfl
 | succ i ih =>
  have:=ih (by omega)
  simp only [addTo,List.getD_eq_getElem?_getD,List.getElem?_set] at *
  rw [if_neg (by omega)]
  exact this
theorem addTo_at (l m:List Nat) (i:Nat):(addTo l m i).getD i 0 = l.getD i 0:=addTo_past l m i i (Nat.le_refl _)
theorem word4_lt {a b c d:Nat} (ha:a < 256) (hb:b < 256) (hc:c < 256) (hd:d < 256):word4 a b c d < 4294967296:=by
 have h1:=Nat.or_lt_two_pow (n:=32) (x:=a * 16777216) (y:=b * 65536) (by omega) (by omega)
 have h2:=Nat.or_lt_two_pow (n:=32) (x:=a * 16777216 ||| b * 65536) (y:=c * 256) h1 (by omega)
 have h3:=Nat.or_lt_two_pow (n:=32) (x:=(a * 16777216 ||| b * 65536) ||| c * 256) (y:=d) h2 (by omega)
 exact h3
theorem byteAt_lt (bs:List UInt8) (i:Nat):byteAt bs i < 256:=UInt8.toNat_lt _
theorem getD_set_lt {ws:List Nat} (h:∀ i,ws.getD i 0 < 4294967296) (k n:Nat) (hn:n < 4294967296) (i:Nat):(ws.set k n).getD i 0 < 4294967296:=by
 have:=h i
 simp only [List.getD_eq_getElem?_getD,List.getElem?_set] at *
 split
 ·split
  ·exact hn
  ·simp
 ·exact this
theorem wOne_lt (bs:List UInt8) (k i:Nat):(wOne bs k).getD i 0 < 4294967296:=by
 induction k generalizing i with
 | zero =>
  simp only [wOne,zeros,List.getD_eq_getElem?_getD,List.getElem?_replicate]
  split <;> simp
 | succ k ih=>exact getD_set_lt ih _ _ (word4_lt (byteAt_lt _ _) (byteAt_lt _ _) (byteAt_lt _ _) (byteAt_lt _ _)) i
theorem wTwo_lt (bs:List UInt8) (k i:Nat):(wTwo bs k).getD i 0 < 4294967296:=by
 induction k generalizing i with
 | zero=>exact wOne_lt bs 16 i
 | succ k ih=>exact getD_set_lt ih _ _ (Nat.mod_lt _ (by omega)) i
end Go.Proofs.YtncigfibncmioaaGreatDoor.Sha
namespace Go.Proofs.YtncigfibncmioaaGreatDoor.Sha
theorem block_ok (s:St) (bs:List UInt8):(block s bs).Ok:=add_ok _ _
def allTo (s:St) (l:List UInt8):Nat → St
 | 0=>s
 | k + 1=>block (allTo s l k) ((l.drop (64 * k)).take 64)
theorem allTo_ok {s:St} (h:s.Ok) (l:List UInt8) (k:Nat):(allTo s l k).Ok:=by
 cases k with
 | zero=>exact h
 | succ k=>exact block_ok _ _
def start:St:=⟨1779033703,3144134277,1013904242,2773480762,1359893119,2600822924,528734635,1541459225⟩
theorem start_ok:start.Ok:=⟨by decide,by decide,by decide,by decide,by decide,by decide,by decide,by decide⟩
def dBytes (l:List Nat):Nat → List Nat
 | 0=>zeros 32
 | i + 1=>((((dBytes l i).set (4 * i) (l.getD i 0 / 16777216 % 256)).set (4 * i + 1) (l.getD i 0 / 65536 % 256)).set (4 * i + 2) (l.getD i 0 / 256 % 256)).set (4 * i + 3) (l.getD i 0 % 256)
theorem dBytes_len (l:List Nat) (i:Nat):(dBytes l i).length = 32:=by
 induction i with
 | zero=>simp [dBytes,zeros]
 | succ i ih=>simp [dBytes,ih]
theorem getD_set_lt' {B:Nat} {ws:List Nat} (hB:0 < B) (h:∀ i,ws.getD i 0 < B) (k n:Nat) (hn:n < B) (i:Nat):(ws.set k n).getD i 0 < B:=by
 have:=h i
 simp only [List.getD_eq_getElem?_getD,List.getElem?_set] at *
 split
 ·split
  ·exact hn
  ·exact hB
 ·exact this
theorem dBytes_lt (l:List Nat) (k i:Nat):(dBytes l k).getD i 0 < 256:=by
 induction k generalizing i with
 | zero =>
  simp only [dBytes,zeros,List.getD_eq_getElem?_getD,List.getElem?_replicate]
  split <;> simp
 | succ k ih =>
  have p:0 < 256:=by omega
  exact getD_set_lt' p (getD_set_lt' p (getD_set_lt' p (getD_set_lt' p ih _ _ (Nat.mod_lt _ p)) _ _ (Nat.mod_lt _ p)) _ _ (Nat.mod_lt _ p)) _ _ (Nat.mod_lt _ p) i
def St.list (s:St):List Nat:=[s.a,s.b,s.c,s.d,s.e,s.f,s.g,s.h]
def digest (s:St):List Nat:=dBytes s.list 8
def letters:List UInt8:=[48,49,50,51,52,53,54,55,56,57,97,98,99,100,101,102]
def hexd (n:Nat):UInt8:=letters.getD n 0
def textTo (bs:List Nat):Nat → List UInt8
 | 0=>[]
 | k + 1=>textTo bs k ++ [hexd (bs.getD k 0 / 16),hexd (bs.getD k 0 % 16)]
theorem textTo_len (bs:List Nat) (k:Nat):(textTo bs k).length = 2 * k:=by
 induction k with
 | zero=>rfl
 | succ k ih=>simp [textTo,ih];omega
def fillZ (l:List UInt8):Nat → List UInt8
 | 0=>l ++ [128]
 | k + 1=>fillZ l k ++ [0]
theorem fillZ_len (l:List UInt8) (k:Nat):(fillZ l k).length = l.length + 1 + k:=by
 induction k with
 | zero=>simp [fillZ]
 | succ k ih=>simp [fillZ,ih];omega
def fillL (l:List UInt8) (n:Nat):Nat → List UInt8
 | 0=>l
 | k + 1=>fillL l n k ++ [UInt8.ofNat (n / 2 ^ (8 * (7 - k)) % 256)]
theorem fillL_len (l:List UInt8) (n k:Nat):(fillL l n k).length = l.length + k:=by
 induction k with
 | zero=>simp [fillL]
 | succ k ih=>simp [fillL,ih];omega
def gap (n:Nat):Nat:=(119 - n % 64) % 64
def fill (l:List UInt8) (n:Nat):List UInt8:=fillL (fillZ l (gap l.length)) (n * 8 % 18446744073709551616) 8
theorem fill_len (l:List UInt8) (n:Nat):(fill l n).length = l.length + 9 + gap l.length:=by
 simp only [fill,fillL_len,fillZ_len];omega
theorem fill_mod (l:List UInt8) (n:Nat):(fill l n).length % 64 = 0:=by
 rw [fill_len];unfold gap;omega
def whole (l:List UInt8):Nat:=l.length / 64 * 64
def state (l:List UInt8):St :=
 allTo (allTo start (l.take (whole l)) (l.length / 64)) (fill (l.drop (whole l)) l.length) ((fill (l.drop (whole l)) l.length).length / 64)
theorem state_ok (l:List UInt8):(state l).Ok:=allTo_ok (allTo_ok start_ok _ _) _ _
def hash (l:List UInt8):List UInt8:=textTo (digest (state l)) 32
end Go.Proofs.YtncigfibncmioaaGreatDoor.Sha
namespace Go.Proofs.YtncigfibncmioaaGreatDoor.Sha
def b0F (y:Nat):Nat:=Nat.mod (Nat.xor (Nat.xor (Nat.div y 4) (Nat.div y 8192)) (Nat.div y 4194304)) 4294967296
def b1F (y:Nat):Nat:=Nat.mod (Nat.xor (Nat.xor (Nat.div y 64) (Nat.div y 2048)) (Nat.div y 33554432)) 4294967296
def s0F (x y:Nat):Nat:=Nat.xor (Nat.mod (Nat.xor (Nat.div y 128) (Nat.div y 262144)) 4294967296) (Nat.div x 8)
def s1F (x y:Nat):Nat:=Nat.xor (Nat.mod (Nat.xor (Nat.div y 131072) (Nat.div y 524288)) 4294967296) (Nat.div x 1024)
def rndF:List Nat → List Nat → Nat → Nat → Nat → Nat → Nat → Nat → Nat → Nat → St
 | k :: ks,w :: ws,a,b,c,d,e,f,g,h =>
  (fun t=>rndF ks ws (Nat.mod (Nat.add t (Nat.mod (Nat.add (b0F (Nat.mul a 4294967297)) (Nat.xor (Nat.xor (Nat.land a b) (Nat.land a c)) (Nat.land b c))) 4294967296)) 4294967296) a b c (Nat.mod (Nat.add d t) 4294967296) e f g) (Nat.mod (Nat.add (Nat.add (Nat.add (Nat.add h (b1F (Nat.mul e 4294967297))) (Nat.xor (Nat.land e f) (Nat.land (Nat.sub 4294967295 e) g))) k) w) 4294967296)
 | [],_,a,b,c,d,e,f,g,h=>⟨a,b,c,d,e,f,g,h⟩
 | _ :: _,[],a,b,c,d,e,f,g,h=>⟨a,b,c,d,e,f,g,h⟩
def schF:Nat → Nat → Nat → Nat → Nat → Nat → Nat → Nat → Nat → Nat → Nat → Nat → Nat → Nat → Nat → Nat → Nat → List Nat
 | 0,a0,a1,a2,a3,a4,a5,a6,a7,a8,a9,a10,a11,a12,a13,a14,a15=>[a0,a1,a2,a3,a4,a5,a6,a7,a8,a9,a10,a11,a12,a13,a14,a15]
 | n + 1,a0,a1,a2,a3,a4,a5,a6,a7,a8,a9,a10,a11,a12,a13,a14,a15=>a0 :: schF n a1 a2 a3 a4 a5 a6 a7 a8 a9 a10 a11 a12 a13 a14 a15 (Nat.mod (Nat.add (Nat.add (Nat.add (s1F a14 (Nat.mul a14 4294967297)) a9) (s0F a1 (Nat.mul a1 4294967297))) a0) 4294967296)
def w4F (l:List UInt8):Nat:=word4 (byteAt l 0) (byteAt l 1) (byteAt l 2) (byteAt l 3)
def schL (l:List UInt8):List Nat :=
 schF 48 (w4F l) (w4F (l.drop 4)) (w4F (l.drop 8)) (w4F (l.drop 12)) (w4F (l.drop 16)) (w4F (l.drop 20)) (w4F (l.drop 24)) (w4F (l.drop 28)) (w4F (l.drop 32)) (w4F (l.drop 36)) (w4F (l.drop 40)) (w4F (l.drop 44)) (w4F (l.drop 48)) (w4F (l.drop 52)) (w4F (l.drop 56)) (w4F (l.drop 60))
def blockF (s:St) (l:List UInt8):St:=add s (rndF kTab (schL l) s.a s.b s.c s.d s.e s.f s.g s.h)
def allF (s:St) (l:List UInt8):Nat → St
 | 0=>s
 | k + 1=>blockF (allF s l k) ((l.drop (64 * k)).take 64)
theorem rot_eq (x r:Nat) (hx:x < 4294967296) (hr:r ≤ 32):rotr x r = x * 4294967297 / 2 ^ r % 4294967296:=by
 have hp:2 ^ (32 - r) * 2 ^ r = 4294967296:=by rw [← Nat.pow_add,show 32 - r + r = 32 by omega]
 have h2:0 < 2 ^ r:=Nat.two_pow_pos r
 have h1:x * 4294967297 / 2 ^ r = x / 2 ^ r + x * 2 ^ (32 - r):=by
  rw [← Nat.add_mul_div_right _ _ h2]
  congr 1
  rw [Nat.mul_assoc,hp]
  omega
 have h3:x * 2 ^ (32 - r) % 4294967296 = 2 ^ (32 - r) * (x % 2 ^ r):=by
  rw [← hp,Nat.mul_comm x,Nat.mul_mod_mul_left]
 have h4:x / 2 ^ r < 2 ^ (32 - r):=Nat.div_lt_of_lt_mul (by rw [Nat.mul_comm,hp];exact hx)
 unfold rotr
 rw [h3,← Nat.two_pow_add_eq_or_of_lt h4,h1,Nat.add_comm (x / 2 ^ r),← Nat.mod_add_mod,h3]
 have h5:x % 2 ^ r < 2 ^ r:=Nat.mod_lt _ h2
 have h6:2 ^ (32 - r) * (x % 2 ^ r) + 2 ^ (32 - r) ≤ 4294967296:=by
  rw [← hp,← Nat.mul_succ]
  exact Nat.mul_le_mul_left _ h5
 exact (Nat.mod_eq_of_lt (by omega)).symm
theorem xmod (a b:Nat):(a ^^^ b) % 4294967296 = (a % 4294967296) ^^^ (b % 4294967296):=Nat.xor_mod_two_pow (n:=32)
theorem b0_eq (x:Nat) (hx:x < 4294967296):b0F (Nat.mul x 4294967297) = big3 x 2 13 22:=by
 unfold big3
 rw [rot_eq x 2 hx (by omega),rot_eq x 13 hx (by omega),rot_eq x 22 hx (by omega)]
 show ((x * 4294967297 / 4 ^^^ x * 4294967297 / 8192) ^^^ x * 4294967297 / 4194304) % 4294967296 = _
 rw [xmod,xmod]
theorem b1_eq (x:Nat) (hx:x < 4294967296):b1F (Nat.mul x 4294967297) = big3 x 6 11 25:=by
 unfold big3
 rw [rot_eq x 6 hx (by omega),rot_eq x 11 hx (by omega),rot_eq x 25 hx (by omega)]
 show ((x * 4294967297 / 64 ^^^ x * 4294967297 / 2048) ^^^ x * 4294967297 / 33554432) % 4294967296 = _
 rw [xmod,xmod]
theorem s0_eq (x:Nat) (hx:x < 4294967296):s0F x (Nat.mul x 4294967297) = sm3 x 7 18 3:=by
 unfold sm3
 rw [rot_eq x 7 hx (by omega),rot_eq x 18 hx (by omega)]
 show ((x * 4294967297 / 128 ^^^ x * 4294967297 / 262144) % 4294967296) ^^^ x / 8 = _
 rw [xmod]
theorem s1_eq (x:Nat) (hx:x < 4294967296):s1F x (Nat.mul x 4294967297) = sm3 x 17 19 10:=by
 unfold sm3
 rw [rot_eq x 17 hx (by omega),rot_eq x 19 hx (by omega)]
 show ((x * 4294967297 / 131072 ^^^ x * 4294967297 / 524288) % 4294967296) ^^^ x / 1024 = _
 rw [xmod]
theorem rndF_eq:∀ (ks ws:List Nat) (s:St),s.Ok → rndF ks ws s.a s.b s.c s.d s.e s.f s.g s.h = (ks.zip ws).foldl (fun s p=>step s p.1 p.2) s
 | [],ws,s,_=>rfl
 | k :: ks,[],s,_=>rfl
 | k :: ks,w :: ws,s,h=>by
  have ih:=rndF_eq ks ws (step s k w) (step_ok h k w)
  rw [List.zip_cons_cons,List.foldl_cons,← ih]
  rw [rndF,b0_eq _ h.a,b1_eq _ h.e]
  rfl
theorem roundsTo_fold (ws:List Nat) (v:St):∀ k,roundsTo ws v k = (List.range k).foldl (fun s i=>step s (kTab.getD i 0) (ws.getD i 0)) v
 | 0=>rfl
 | k + 1=>by rw [List.range_succ,List.foldl_append,← roundsTo_fold ws v k];rfl
theorem zip_range (ws:List Nat) (h:ws.length = 64):kTab.zip ws = (List.range 64).map fun i=>(kTab.getD i 0,ws.getD i 0):=by
 have hk:kTab.length = 64:=rfl
 refine List.ext_getElem (by rw [List.length_zip,hk,h,List.length_map,List.length_range];rfl) fun i h1 h2=>?_
 rw [List.length_map,List.length_range] at h2
 rw [List.getElem_zip,List.getElem_map,List.getElem_range,List.getD_eq_getElem?_getD,List.getD_eq_getElem?_getD,List.getElem?_eq_getElem (by omega),List.getElem?_eq_getElem (by omega)]
 rfl
theorem rounds_eq (ws:List Nat) (h:ws.length = 64) (s:St) (hs:s.Ok):rndF kTab ws s.a s.b s.c s.d s.e s.f s.g s.h = roundsTo ws s 64:=by
 rw [rndF_eq _ _ _ hs,roundsTo_fold,zip_range ws h,List.foldl_map]
theorem schF_eq (W:Nat → Nat) (hW:∀ k,k < 48 → W (k + 16) = (sm3 (W (k + 14)) 17 19 10 + W (k + 9) + sm3 (W (k + 1)) 7 18 3 + W k) % 4294967296) (hlt:∀ k,W k < 4294967296) :
  ∀ n k,k + n ≤ 48 → schF n (W k) (W (k + 1)) (W (k + 2)) (W (k + 3)) (W (k + 4)) (W (k + 5)) (W (k + 6)) (W (k + 7)) (W (k + 8)) (W (k + 9)) (W (k + 10)) (W (k + 11)) (W (k + 12)) (W (k + 13)) (W (k + 14)) (W (k + 15)) = (List.range' k (n + 16)).map W
 | 0,k,_=>by
  rw [schF]
  rfl
 | n + 1,k,h=>by
  have ih:=schF_eq W hW hlt n (k + 1) (by omega)
  rw [show n + 1 + 16 = n + 16 + 1 by omega,List.range'_succ,List.map_cons,← ih]
  rw [schF,s1_eq _ (hlt _),s0_eq _ (hlt _)]
  have h2:=hW k (by omega)
  show W k :: schF n _ _ _ _ _ _ _ _ _ _ _ _ _ _ _ ((sm3 (W (k + 14)) 17 19 10 + W (k + 9) + sm3 (W (k + 1)) 7 18 3 + W k) % 4294967296) = _
  rw [← h2]
theorem getDsetNe (l:List Nat) (k j x:Nat) (h:k ≠ j):(l.set k x).getD j 0 = l.getD j 0:=by
 simp [List.getD_eq_getElem?_getD,h]
theorem getDset (l:List Nat) (k x:Nat) (h:k < l.length):(l.set k x).getD k 0 = x:=by
 simp [List.getD_eq_getElem?_getD,h]
theorem wOne_at (bs:List UInt8):∀ k j,k ≤ 64 → j < k → (wOne bs k).getD j 0 = wordAt bs j
 | 0,j,_,h=>by omega
 | k + 1,j,hk,h=>by
  rw [wOne]
  by_cases e:j = k
  ·subst e
   rw [getDset _ _ _ (by rw [wOne_len];omega)]
  ·rw [getDsetNe _ _ _ _ (by omega),wOne_at bs k j (by omega) (by omega)]
theorem wTwo_stay (bs:List UInt8):∀ m k j,j < k + 16 → (wTwo bs (k + m)).getD j 0 = (wTwo bs k).getD j 0
 | 0,k,j,_=>rfl
 | m + 1,k,j,h=>by
  show ((wTwo bs (k + m)).set (k + m + 16) _).getD j 0 = _
  rw [getDsetNe _ _ _ _ (by omega),wTwo_stay bs m k j h]
theorem words_low (bs:List UInt8) (j:Nat) (h:j < 16):(words bs).getD j 0 = wordAt bs j:=by
 have h1:=wTwo_stay bs 48 0 j (by omega)
 rw [Nat.zero_add] at h1
 exact h1.trans (wOne_at bs 16 j (by omega) h)
theorem words_high (bs:List UInt8) (k:Nat) (h:k < 48):(words bs).getD (k + 16) 0 = (sm3 ((words bs).getD (k + 14) 0) 17 19 10 + (words bs).getD (k + 9) 0 + sm3 ((words bs).getD (k + 1) 0) 7 18 3 + (words bs).getD k 0) % 4294967296:=by
 have hs:∀ j,j < k + 16 → (words bs).getD j 0 = (wTwo bs k).getD j 0:=fun j hj=>by
  have h1:=wTwo_stay bs (48 - k) k j hj
  rw [show k + (48 - k) = 48 by omega] at h1
  exact h1
 have h2:=wTwo_stay bs (47 - k) (k + 1) (k + 16) (by omega)
 rw [show k + 1 + (47 - k) = 48 by omega] at h2
 rw [show (words bs).getD (k + 16) 0 = _ from h2]
 rw [wTwo,getDset _ _ _ (by rw [wTwo_len];omega),hs _ (by omega),hs _ (by omega),hs _ (by omega),hs _ (by omega)]
 unfold wNext
 rw [show k + 16 - 2 = k + 14 by omega,show k + 16 - 7 = k + 9 by omega,show k + 16 - 15 = k + 1 by omega,show k + 16 - 16 = k by omega]
theorem w4_drop (l:List UInt8) (i:Nat):w4F (l.drop (4 * i)) = wordAt l i:=by
 unfold w4F wordAt byteAt
 simp only [List.getD_eq_getElem?_getD,List.getElem?_drop]
 rfl
theorem schL_eq (l:List UInt8):schL l = words l:=by
 have h:=schF_eq (fun i=>(words l).getD i 0) (fun k hk=>words_high l k hk) (fun k=>wTwo_lt l 48 k) 48 0 (by omega)
 have hw:∀ i,i < 16 → (words l).getD i 0 = w4F (l.drop (4 * i)):=fun i hi=>(words_low l i hi).trans (w4_drop l i).symm
 have e:(List.range' 0 (48 + 16)).map (fun i=>(words l).getD i 0) = words l:=by
  refine List.ext_getElem (by rw [List.length_map,List.length_range',words_len]) fun i h1 h2=>?_
  rw [List.getElem_map,List.getElem_range',List.getD_eq_getElem?_getD,List.getElem?_eq_getElem (by omega)]
  simp
 rw [e] at h
 rw [← h]
 simp only [Nat.zero_add]
 rw [hw 0 (by omega),hw 1 (by omega),hw 2 (by omega),hw 3 (by omega),hw 4 (by omega),hw 5 (by omega),hw 6 (by omega),hw 7 (by omega),hw 8 (by omega),hw 9 (by omega),hw 10 (by omega),hw 11 (by omega),hw 12 (by omega),hw 13 (by omega),hw 14 (by omega),hw 15 (by omega)]
 rfl
theorem blockF_eq (s:St) (hs:s.Ok) (l:List UInt8):blockF s l = block s l:=by
 unfold blockF block
 rw [schL_eq,rounds_eq _ (words_len l) s hs]
theorem allF_eq (s:St) (hs:s.Ok) (l:List UInt8):∀ k,allF s l k = allTo s l k
 | 0=>rfl
 | k + 1=>by
  rw [allF,allF_eq s hs l k,blockF_eq _ (allTo_ok hs l k)]
  rfl
def padF (l:List UInt8) (n:Nat):List UInt8:=l ++ (128 :: (List.replicate (gap l.length) 0 ++ [UInt8.ofNat (n / 72057594037927936 % 256),UInt8.ofNat (n / 281474976710656 % 256),UInt8.ofNat (n / 1099511627776 % 256),UInt8.ofNat (n / 4294967296 % 256),UInt8.ofNat (n / 16777216 % 256),UInt8.ofNat (n / 65536 % 256),UInt8.ofNat (n / 256 % 256),UInt8.ofNat (n % 256)]))
theorem fillZ_eq (l:List UInt8):∀ k,fillZ l k = l ++ (128 :: List.replicate k 0)
 | 0=>rfl
 | k + 1=>by
  rw [fillZ,fillZ_eq l k,List.replicate_succ',List.append_assoc,List.cons_append]
theorem fill_eq (l:List UInt8) (n:Nat) (h:n < 1000000):fill l n = padF l (n * 8):=by
 have e:n * 8 % 18446744073709551616 = n * 8:=Nat.mod_eq_of_lt (by omega)
 unfold fill padF
 rw [e,fillZ_eq]
 simp only [fillL,List.append_assoc,List.cons_append,List.nil_append]
 rw [show n * 8 / 2 ^ (8 * (7 - 7)) = n * 8 by simp]
def headF (l:List UInt8):St:=allF start (l.take (l.length / 64 * 64)) (l.length / 64)
def tailA (s:St) (l:List UInt8) (n:Nat):Nat:=(blockF s (padF l (n * 8))).a
theorem state_a (l:List UInt8) (h:l.length % 64 ≤ 55) (h2:l.length < 1000000):(state l).a = tailA (headF l) (l.drop (l.length / 64 * 64)) l.length:=by
 have hlen:(fill (l.drop (whole l)) l.length).length = 64:=by
  rw [fill_len]
  unfold gap whole
  rw [List.length_drop]
  omega
 unfold state
 rw [hlen]
 show (block (allTo start (l.take (whole l)) (l.length / 64)) (((fill (l.drop (whole l)) l.length).drop 0).take 64)).a = _
 rw [List.drop_zero,List.take_of_length_le (l:=fill (l.drop (whole l)) l.length) (by omega),fill_eq _ _ h2]
 unfold tailA headF
 rw [blockF_eq _ (by rw [allF_eq _ start_ok];exact allTo_ok start_ok _ _),allF_eq _ start_ok]
 rfl
theorem state_ax (l:List UInt8) (x:UInt8) (h:l.length % 64 ≤ 54) (h2:l.length < 900000):(state (l ++ [x])).a = tailA (headF l) (l.drop (l.length / 64 * 64) ++ [x]) (l.length + 1):=by
 have hl:(l ++ [x]).length = l.length + 1:=by simp
 rw [state_a _ (by omega) (by omega),hl,show (l.length + 1) / 64 = l.length / 64 by omega]
 have hle:l.length / 64 * 64 ≤ l.length:=by omega
 unfold headF
 rw [hl,show (l.length + 1) / 64 = l.length / 64 by omega,List.take_append_of_le_length hle,List.drop_append_of_le_length hle]
theorem dBytes_stay (l:List Nat) (j:Nat):∀ m i,j < 4 * i → (dBytes l (i + m)).getD j 0 = (dBytes l i).getD j 0
 | 0,i,_=>rfl
 | m + 1,i,h=>by
  show (((((dBytes l (i + m)).set (4 * (i + m)) _).set (4 * (i + m) + 1) _).set (4 * (i + m) + 2) _).set (4 * (i + m) + 3) _).getD j 0 = _
  rw [getDsetNe _ _ _ _ (by omega),getDsetNe _ _ _ _ (by omega),getDsetNe _ _ _ _ (by omega),getDsetNe _ _ _ _ (by omega),dBytes_stay l j m i h]
theorem digest_a (s t:St) (hs:s.Ok) (ht:t.Ok) (h:digest s = digest t):s.a = t.a:=by
 have hz:∀ x y z u,((((zeros 32).set 0 x).set 1 y).set 2 z).set 3 u = x :: y :: z :: u :: zeros 28:=fun x y z u=>rfl
 have e:∀ (s:St) j,j < 4 → (digest s).getD j 0 = (s.a / 16777216 % 256 :: s.a / 65536 % 256 :: s.a / 256 % 256 :: s.a % 256 :: zeros 28).getD j 0:=fun s j hj=>by
  rw [← hz (s.a / 16777216 % 256) (s.a / 65536 % 256) (s.a / 256 % 256) (s.a % 256)]
  exact dBytes_stay s.list j 7 1 (by omega)
 have e0:∀ s:St,(digest s).getD 0 0 = s.a / 16777216 % 256:=fun s=>(e s 0 (by omega)).trans rfl
 have e1:∀ s:St,(digest s).getD 1 0 = s.a / 65536 % 256:=fun s=>(e s 1 (by omega)).trans rfl
 have e2:∀ s:St,(digest s).getD 2 0 = s.a / 256 % 256:=fun s=>(e s 2 (by omega)).trans rfl
 have e3:∀ s:St,(digest s).getD 3 0 = s.a % 256:=fun s=>(e s 3 (by omega)).trans rfl
 have a0:=(e0 s).symm.trans ((congrArg (fun l=>l.getD 0 0) h).trans (e0 t))
 have a1:=(e1 s).symm.trans ((congrArg (fun l=>l.getD 1 0) h).trans (e1 t))
 have a2:=(e2 s).symm.trans ((congrArg (fun l=>l.getD 2 0) h).trans (e2 t))
 have a3:=(e3 s).symm.trans ((congrArg (fun l=>l.getD 3 0) h).trans (e3 t))
 have:=hs.a
 have:=ht.a
 omega
end Go.Proofs.YtncigfibncmioaaGreatDoor.Sha
namespace Go.Proofs.YtncigfibncmioaaGreatDoor
set_option maxRecDepth 100000
def nameLL:List (List UInt8):=[[97],[97,46,98],[97,95],[97,98],[98,45],[99],[100,57],[101],[102],[103],[104],[108,97,116,101,115,116]]
def nmLL (r:Nat):List UInt8:=nameLL.getD r []
def digLL:List UInt8:=[48,49,50,51,52,53,54,55,56,57]
def ctL (l:List Nat):List UInt8:=l.flatMap nmLL
def repL (p:List UInt8):Nat → List UInt8
 | 0=>[]
 | n + 1=>digLL ++ (p ++ repL p n)
def cntL (s q:Nat):Nat:=(200 - s + (q - 1)) / q
def conG (s:Nat × List Nat):List UInt8:=match s.1 with
 | 0=>ctL s.2
 | p + 1=>ctL s.2 ++ repL (nmLL p) (cntL (ctL s.2).length (10 + (nmLL p).length))
def sg0:List (Nat × List Nat):=[(0,[]),(0,[0]),(0,[0,0]),(0,[0,0,1]),(0,[0,0,1,2]),(0,[0,0,1,2,3,4]),(0,[0,0,1,2,3,4,5]),(0,[0,0,1,2,3,4,5,6]),(0,[0,1]),(0,[0,1,2]),(0,[0,1,2,3]),(0,[0,1,2,3,4]),(0,[0,1,2,3,4,5]),(0,[0,1,2,3,4,5,6]),(0,[0,1,2,3,4,5,6,7]),(0,[0,11]),(0,[0,11,10]),(0,[0,11,10,9]),(0,[0,11,10,9,8]),(0,[0,11,10,9,8,7]),(0,[0,11,10,9,8,7,6]),(0,[0,11,10,9,8,7,6,5]),(0,[1]),(0,[1,0]),(0,[1,0,0,1]),(0,[1,0,0,1,2]),(0,[1,0,0,1,2,3]),(0,[1,0,0,1,2,3,4]),(0,[1,0,0,1,2,3,4,5]),(0,[1,0,11]),(0,[1,0,11,10]),(0,[1,0,11,10,9]),(0,[1,0,11,10,9,8]),(0,[1,0,11,10,9,8,7]),(0,[1,0,11,10,9,8,7,6]),(0,[1,2]),(0,[1,2,3]),(0,[1,2,3,4]),(0,[1,2,3,4,5]),(0,[1,2,3,4,5,6]),(0,[1,2,3,4,5,6,7]),(0,[1,2,3,4,5,6,7,8]),(0,[2]),(0,[2,1]),(0,[2,1,0])]
def kx0:List Nat:=[3820012610,3398926610,2518379987,4062990373,74275747,639475136,257654211,326710571,707900260,3245225209,1691123734,2093438998,2441410136,2456822165,2733664783,3227032142,3882845800,1932944605,2973558093,177790511,3207232924,3734694402,779302620,3930704211,1695799818,3989846995,183276275,1891056254,3103790564,172789087,2125592506,1522864064,3812676290,2198832988,2259035831,137048792,3146447067,1801479896,4165332823,2725900087,662285305,512842873,1461694691,3824765930,2516803521]
def kc0:List Nat:=[762385986,1585788686,1770355732,714851102,780558599,236702632,2798917448,2382713656,2693425062,3049363649,3172703203,1261431636,688455865,822660531,2230587822,3403540405,3709278192,1688569566,3004928057,3274030341,930963427,120772804,3081683803,55293059,3003119993,2763170438,1018071479,3618021002,2662927181,1917046592,3735160421,951737204,3622016525,1623719249,2446512413,3040134044,2313607372,2649219493,3587501376,83451962,2215401564,3031758913,440952770,18217270,4055801020]
def sg1:List (Nat × List Nat):=[(0,[2,1,0,0]),(0,[2,1,0,0,1]),(0,[2,1,0,0,1,2]),(0,[2,1,0,0,1,2,3]),(0,[2,1,0,0,1,2,3,4]),(0,[2,1,0,11]),(0,[2,1,0,11,10]),(0,[2,1,0,11,10,9]),(0,[2,1,0,11,10,9,8]),(0,[2,1,0,11,10,9,8,7]),(0,[2,3]),(0,[2,3,4]),(0,[2,3,4,5]),(0,[2,3,4,5,6]),(0,[2,3,4,5,6,7]),(0,[2,3,4,5,6,7,8]),(0,[2,3,4,5,6,7,8,9]),(0,[3]),(0,[3,2]),(0,[3,2,1]),(0,[3,2,1,0]),(0,[3,2,1,0,0]),(0,[3,2,1,0,0,1,2]),(0,[3,2,1,0,11]),(0,[3,2,1,0,11,10]),(0,[3,2,1,0,11,10,9]),(0,[3,2,1,0,11,10,9,8]),(0,[3,4]),(0,[3,4,5]),(0,[3,4,5,6]),(0,[3,4,5,6,7]),(0,[3,4,5,6,7,8]),(0,[3,4,5,6,7,8,9]),(0,[3,4,5,6,7,8,9,10]),(0,[4]),(0,[4,3]),(0,[4,3,2]),(0,[4,3,2,1]),(0,[4,3,2,1,0]),(0,[4,3,2,1,0,0]),(0,[4,3,2,1,0,0,1]),(0,[4,3,2,1,0,0,1,2]),(0,[4,3,2,1,0,11]),(0,[4,3,2,1,0,11,10]),(0,[4,3,2,1,0,11,10,9])]
def kx1:List Nat:=[2255249674,1267794269,51066257,3437337496,343613969,1341767335,2770051955,935677339,1947519181,2405045596,476644052,1184164557,3973293231,2078682115,403247100,1206238064,2000934791,4220395772,25638113,3402406387,2883318741,1814192222,296662720,94339945,135773915,1105112541,2381241453,1681637221,303528969,4017864890,2857351860,719993529,3003601166,1592026820,2888084909,109910476,1783792938,1448226329,996744346,1258407711,1551625161,651548577,1829871154,15071644,2743195459]
def kc1:List Nat:=[2724423317,1563413969,1873022616,4204967780,2128547212,2714789213,3347323687,153563829,2783089037,4008271606,946216529,1411717405,1305311070,3344298162,682282245,1355703026,36333182,2998774594,3960723495,1049937924,46959858,2295219776,1163156323,2367234890,364830353,444186087,918312662,3344281951,1625943659,1542187196,3524541081,847298672,1886946200,265376694,1689404807,2023681505,1531574198,4254139756,1642958914,3553748383,2603982772,1829367718,3412124519,3288113714,1890381587]
def sg2:List (Nat × List Nat):=[(0,[4,5]),(0,[4,5,6]),(0,[4,5,6,7]),(0,[4,5,6,7,8]),(0,[4,5,6,7,8,9]),(0,[4,5,6,7,8,9,10]),(0,[4,5,6,7,8,9,10,11]),(0,[5]),(0,[5,4]),(0,[5,4,3]),(0,[5,4,3,2]),(0,[5,4,3,2,1]),(0,[5,4,3,2,1,0]),(0,[5,4,3,2,1,0,0]),(0,[5,4,3,2,1,0,0,1]),(0,[5,4,3,2,1,0,11]),(0,[5,4,3,2,1,0,11,10]),(0,[5,6]),(0,[5,6,7]),(0,[5,6,7,8]),(0,[5,6,7,8,9]),(0,[5,6,7,8,9,10]),(0,[5,6,7,8,9,10,11]),(0,[5,6,7,8,9,10,11,0]),(0,[6]),(0,[6,5]),(0,[6,5,4]),(0,[6,5,4,3]),(0,[6,5,4,3,2]),(0,[6,5,4,3,2,1]),(0,[6,5,4,3,2,1,0]),(0,[6,5,4,3,2,1,0,0]),(0,[6,5,4,3,2,1,0,11]),(0,[6,7]),(0,[6,7,8]),(0,[6,7,8,9]),(0,[6,7,8,9,10]),(0,[6,7,8,9,10,11]),(0,[6,7,8,9,10,11,0]),(0,[6,7,8,9,10,11,0,1]),(0,[7]),(0,[7,6]),(0,[7,6,5]),(0,[7,6,5,4]),(0,[7,6,5,4,3])]
def kx2:List Nat:=[3935283288,483249372,2140818416,3184346748,3160177681,711725866,2988862002,779955203,3915882168,4148109442,283326560,1619248348,1062333390,1034642736,1365840116,3102907735,1865435132,2604633326,2700211345,3750819405,1311303736,2911292068,167764404,3400251383,4038650004,1622797118,27090488,810413148,3212762778,2525661301,398838894,2673999419,3247749591,2385229917,468753886,1268270770,2483098765,2080112984,1646816620,1303746838,1064942459,3908252009,1643992586,2841421842,4062775447]
def kc2:List Nat:=[1102084428,2821233385,1001577197,2053476916,1606516,1439026512,3462061782,739342766,1840529063,2151817470,299304807,362668875,2815876561,913260698,1302933250,3117007599,3250810692,1610830638,2920962188,3800634767,907547568,84277892,4151364291,1842821038,2406279526,4254213561,778275155,2042276930,2596586320,988581866,3516436541,842457114,981740524,1742302169,2623726155,2213962208,341016791,2952804863,2114162823,3273731467,1393752928,3644003471,2927484813,2179239157,2408849235]
def sg3:List (Nat × List Nat):=[(0,[7,6,5,4,3,2]),(0,[7,6,5,4,3,2,1]),(0,[7,6,5,4,3,2,1,0]),(0,[7,8]),(0,[7,8,9]),(0,[7,8,9,10]),(0,[7,8,9,10,11]),(0,[7,8,9,10,11,0]),(0,[7,8,9,10,11,0,1]),(0,[7,8,9,10,11,0,1,2]),(0,[8]),(0,[8,7]),(0,[8,7,6]),(0,[8,7,6,5]),(0,[8,7,6,5,4]),(0,[8,7,6,5,4,3]),(0,[8,7,6,5,4,3,2]),(0,[8,7,6,5,4,3,2,1]),(0,[8,9]),(0,[8,9,10]),(0,[8,9,10,11]),(0,[8,9,10,11,0]),(0,[8,9,10,11,0,1]),(0,[8,9,10,11,0,1,2]),(0,[8,9,10,11,0,1,2,3]),(0,[9]),(0,[9,8]),(0,[9,8,7]),(0,[9,8,7,6]),(0,[9,8,7,6,5]),(0,[9,8,7,6,5,4]),(0,[9,8,7,6,5,4,3]),(0,[9,8,7,6,5,4,3,2]),(0,[9,10]),(0,[9,10,11]),(0,[9,10,11,0]),(0,[9,10,11,0,1]),(0,[9,10,11,0,1,2]),(0,[9,10,11,0,1,2,3]),(0,[9,10,11,0,1,2,3,4]),(0,[10]),(0,[10,9]),(0,[10,9,8]),(0,[10,9,8,7]),(0,[10,9,8,7,6])]
def kx3:List Nat:=[3470310363,3028659697,3888137032,1285974444,3573541097,3856697504,494349574,3586886564,610317856,1251278451,623841480,748539373,757487232,1700695199,2828754554,776649372,472827771,2484746758,3279976351,920714628,3988429619,151778066,3900359057,1519483942,2461575981,3440028037,232150168,982097119,3372272373,3737875008,2382000292,3711959624,2887420037,4213931982,2523055874,1916741328,252831918,930843515,1246419195,36432717,2863218726,1880580388,515587561,2564154634,2216816802]
def kc3:List Nat:=[3583572450,723227506,4191385633,2349851849,2790620753,1759912722,891211792,3459031862,3570311752,1911961636,1767301599,3664541643,3319576043,2702622036,123859110,2157007329,61455052,364848117,1092448805,2573256044,2948223141,571669142,658629185,2513380827,2614128192,3251353616,605929049,3745225842,48566635,4125483346,2880879782,2640783364,1193732935,322227088,373655415,2603692772,2981129819,2962827448,1573518052,1075645465,1357028972,1035120424,1661923879,1562111054,3805440659]
def sg4:List (Nat × List Nat):=[(0,[10,9,8,7,6,5]),(0,[10,9,8,7,6,5,4]),(0,[10,9,8,7,6,5,4,3]),(0,[10,11]),(0,[10,11,0]),(0,[10,11,0,1]),(0,[10,11,0,1,2]),(0,[10,11,0,1,2,3]),(0,[10,11,0,1,2,3,4]),(0,[10,11,0,1,2,3,4,5]),(0,[11]),(0,[11,0]),(0,[11,0,1]),(0,[11,0,1,2]),(0,[11,0,1,2,3]),(0,[11,0,1,2,3,4]),(0,[11,0,1,2,3,4,5]),(0,[11,0,1,2,3,4,5,6]),(0,[11,10]),(0,[11,10,9]),(0,[11,10,9,8]),(0,[11,10,9,8,7]),(0,[11,10,9,8,7,6]),(0,[11,10,9,8,7,6,5]),(0,[11,10,9,8,7,6,5,4]),(1,[]),(1,[0,11,10]),(1,[1,0,11,10,9,8]),(1,[1,2,3]),(1,[2,3,4,5,6,7]),(1,[4,3,2]),(1,[5,4,3,2,1,0]),(1,[5,6,7]),(1,[6,7,8,9,10,11]),(1,[8,7,6]),(1,[9,8,7,6,5,4]),(1,[9,10,11]),(1,[10,11,0,1,2,3]),(2,[0]),(2,[0,11,10,9]),(2,[1,0,11,10,9,8,7]),(2,[1,2,3,4]),(2,[2,3,4,5,6,7,8]),(2,[3]),(2,[4])]
def kx4:List Nat:=[3325993982,2168353632,4108526404,821020571,376152534,2406559911,1784769729,3777638192,2049041366,2913600481,1579035594,2716061199,2026445421,942404325,3229782901,182592169,1002998705,2193606798,2890517027,258577953,1566121463,1197952455,3737964624,3532124170,206919202,3744749522,2535940567,2433776772,2052108433,3844705554,1617396070,2927607684,278849137,2336830986,148891625,226377864,2342436702,436882250,3698333183,2591874695,4173954725,3354632378,1109152381,3563640095,656738077]
def kc4:List Nat:=[4116738153,3143937547,834949911,4022917406,1752185265,936562861,3994490375,172693180,2234931894,536605910,2412020010,1059279909,3006343075,4010729659,1171355874,2556319531,580938026,2897309467,3565272520,727757780,2153747217,4247038405,664588417,2385169268,3763631850,1226533611,1678810158,1129608942,1894954419,3825387910,4164290451,3400985026,1391534971,650436459,2375773462,1041531789,1030435187,531561045,1016144416,277002098,2657281194,3059568218,3471638595,2085696730,855471357]
def sg5:List (Nat × List Nat):=[(2,[4,3,2,1]),(2,[5,4,3,2,1,0,11]),(2,[5,6,7,8]),(2,[6,7,8,9,10,11,0]),(2,[7]),(2,[8]),(2,[8,7,6,5]),(2,[9,8,7,6,5,4,3]),(2,[9,10,11,0]),(2,[10,11,0,1,2,3,4]),(2,[11]),(3,[0,0,1,2,3]),(3,[0,1]),(3,[0,11,10,9,8]),(3,[1,2,3,4,5]),(3,[2,1,0,11,10,9,8,7]),(3,[2,3,4,5,6,7,8,9]),(3,[3,2]),(3,[4,3,2,1,0]),(3,[4,5]),(3,[5,6,7,8,9]),(3,[6,5,4,3,2,1,0,11]),(3,[6,7,8,9,10,11,0,1]),(3,[7,6]),(3,[8,7,6,5,4]),(3,[8,9]),(3,[9,10,11,0,1]),(3,[10,9,8,7,6,5,4,3]),(3,[10,11,0,1,2,3,4,5]),(3,[11,10]),(4,[]),(4,[0,1,2]),(4,[0,11,10,9,8,7]),(4,[1,2,3,4,5,6]),(4,[3,2,1]),(4,[4,3,2,1,0,11]),(4,[4,5,6]),(4,[5,6,7,8,9,10]),(4,[7,6,5]),(4,[8,7,6,5,4,3]),(4,[8,9,10]),(4,[9,10,11,0,1,2]),(4,[11,10,9]),(5,[0,1,2,3]),(5,[0,11,10,9,8,7,6])]
def kx5:List Nat:=[2852758911,2394181877,1607207248,2315729022,2959208466,1999519812,1880740425,2487451241,278139074,134507034,1046071053,2251834511,1940629312,1946727946,1906105553,1781944414,214090949,2569409913,1904711427,1145368119,4243305168,113764877,3865723829,1154543526,1938412492,3205480904,3107887466,3509824705,2428235504,1230288809,4104791918,3682507090,1706091448,2201076980,2474041985,3240989366,2933146089,2329809583,909656210,267539655,2450376079,373269321,1357926663,4221898368,588797523]
def kc5:List Nat:=[1552505164,1449861020,2741556575,1566814919,2979568903,1894886147,986673138,2037444256,1570527918,3848446831,3771841160,1987680449,2580804826,2113976353,1384169789,2131111992,2364716264,4061692807,249906086,3700805702,4010643326,4285880108,2567728724,1434485771,1396574632,1609022134,1949438996,4206072580,3046892223,374263495,2061462752,623803607,1419953434,618385910,646900077,520483608,4067731767,4254942172,2074325627,256001566,3910152520,564972367,3564866328,3538036900,3005273229]
def sg6:List (Nat × List Nat):=[(5,[1,2,3,4,5,6,7]),(5,[2]),(5,[3]),(5,[3,2,1,0]),(5,[4,3,2,1,0,11,10]),(5,[4,5,6,7]),(5,[5,6,7,8,9,10,11]),(5,[6]),(5,[7]),(5,[7,6,5,4]),(5,[8,7,6,5,4,3,2]),(5,[8,9,10,11]),(5,[9,10,11,0,1,2,3]),(5,[10]),(5,[11]),(5,[11,10,9,8]),(6,[0,1,2,3,4]),(6,[1,0,11,10,9,8,7,6]),(6,[1,2,3,4,5,6,7,8]),(6,[2,1]),(6,[3,2,1,0,11]),(6,[3,4]),(6,[4,5,6,7,8]),(6,[5,4,3,2,1,0,11,10]),(6,[5,6,7,8,9,10,11,0]),(6,[6,5]),(6,[7,6,5,4,3]),(6,[7,8]),(6,[8,9,10,11,0]),(6,[9,8,7,6,5,4,3,2]),(6,[9,10,11,0,1,2,3,4]),(6,[10,9]),(6,[11,0]),(6,[11,10,9,8,7]),(7,[]),(7,[0,1,2,3,4,5]),(7,[2,1,0]),(7,[3,2,1,0,0,1]),(7,[3,2,1,0,11,10]),(7,[3,4,5]),(7,[4,5,6,7,8,9]),(7,[6,5,4]),(7,[7,6,5,4,3,2]),(7,[7,8,9]),(7,[8,9,10,11,0,1])]
def kx6:List Nat:=[208746738,2029468841,1017447510,768906797,404193602,3662572137,270582209,1897377391,33268569,2831810873,902315416,511590452,1607353832,4059297638,2350230845,963957795,903559701,184187448,1215760784,4060781950,3799984527,2858704231,1334060220,533407150,1738879397,853969221,444634188,462198388,3160799676,3841364281,1827184451,2235799939,246172928,4214524028,2621057850,3711910290,2134440437,3859595089,2043324785,659696427,3669540220,1093279466,3295223600,3737121088,4025674606]
def kc6:List Nat:=[3432592955,3899981184,936839545,2780302500,1931518156,3090774963,2900467854,1981176714,1675796714,1632976243,2981089399,2945214066,2615975055,2768483342,236286515,550107938,4274263533,1581722594,1346661530,2147856024,81610628,3091516616,189829681,1140494168,1706347402,656086924,785772574,3641394863,791829598,866138005,1400971007,3861744834,964067423,2075310710,3911117580,1584478334,1768180420,2725836368,2423045838,2356291020,2554857576,1407849692,784000487,2483243725,2199387051]
def sg7:List (Nat × List Nat):=[(7,[10,9,8]),(7,[11,0,1]),(7,[11,10,9,8,7,6]),(8,[0,1,2,3,4,5,6]),(8,[1]),(8,[2]),(8,[2,1,0,11]),(8,[3,2,1,0,11,10,9]),(8,[3,4,5,6]),(8,[4,5,6,7,8,9,10]),(8,[5]),(8,[6]),(8,[6,5,4,3]),(8,[7,6,5,4,3,2,1]),(8,[7,8,9,10]),(8,[8,9,10,11,0,1,2]),(8,[9]),(8,[10]),(8,[10,9,8,7]),(8,[11,0,1,2]),(8,[11,10,9,8,7,6,5]),(9,[0,1,2,3,4,5,6,7]),(9,[0,11,10,9,8,7,6,5]),(9,[1,0]),(9,[2,1,0,11,10]),(9,[2,3]),(9,[3,4,5,6,7]),(9,[4,3,2,1,0,11,10,9]),(9,[4,5,6,7,8,9,10,11]),(9,[5,4]),(9,[6,5,4,3,2]),(9,[6,7]),(9,[7,8,9,10,11]),(9,[8,7,6,5,4,3,2,1]),(9,[8,9,10,11,0,1,2,3]),(9,[9,8]),(9,[10,9,8,7,6]),(9,[10,11]),(9,[11,0,1,2,3]),(10,[]),(10,[1,0,0]),(10,[1,0,11]),(10,[2,1,0,11,10,9]),(10,[2,3,4]),(10,[3,4,5,6,7,8])]
def kx7:List Nat:=[1338356603,3646930852,1117560059,4132391993,159859139,3397992419,1384519832,3097682339,4256270117,136925403,2637416071,808149176,3506361757,3641314990,2816994751,669953696,4131764181,773658570,2385993000,3739319821,740974240,3095806304,835640534,3593454137,835220926,3814931635,3730837964,1893120639,1629443304,1420990617,4100602366,1518192350,450366271,4292564057,4257214226,492390018,1157140826,2542352912,3267006173,4125687604,3149776435,1415731,4023091257,1470899967,3116852026]
def kc7:List Nat:=[4250494163,820199797,2286979081,1360852391,735759402,1759356480,500245609,915483065,3747679749,3160696019,3769243179,1486840977,1429714917,1453343593,3753344284,2323184175,694909700,872839722,3028031574,3054815956,388016873,1181631792,3756264551,1640661209,1486493392,3783942904,2060815165,3206744065,1873443688,2556178533,3729178644,4051072259,61568282,430563500,1083052979,3773078132,647563047,1216005502,4054618570,1478884827,2701279495,3173801094,1119276935,3003900812,875925409]
def sg8:List (Nat × List Nat):=[(10,[5,4,3]),(10,[6,5,4,3,2,1]),(10,[6,7,8]),(10,[7,8,9,10,11,0]),(10,[9,8,7]),(10,[10,9,8,7,6,5]),(10,[10,11,0]),(10,[11,0,1,2,3,4]),(11,[0]),(11,[1]),(11,[1,0,11,10]),(11,[2,1,0,11,10,9,8]),(11,[2,3,4,5]),(11,[3,4,5,6,7,8,9]),(11,[4]),(11,[5]),(11,[5,4,3,2]),(11,[6,5,4,3,2,1,0]),(11,[6,7,8,9]),(11,[7,8,9,10,11,0,1]),(11,[8]),(11,[9]),(11,[9,8,7,6]),(11,[10,9,8,7,6,5,4]),(11,[10,11,0,1]),(11,[11,0,1,2,3,4,5]),(12,[0,11]),(12,[1,0,11,10,9]),(12,[1,2]),(12,[2,3,4,5,6]),(12,[3,2,1,0,0,1,2,3]),(12,[3,2,1,0,11,10,9,8]),(12,[3,4,5,6,7,8,9,10]),(12,[4,3]),(12,[5,4,3,2,1]),(12,[5,6]),(12,[6,7,8,9,10]),(12,[7,6,5,4,3,2,1,0]),(12,[7,8,9,10,11,0,1,2]),(12,[8,7]),(12,[9,8,7,6,5]),(12,[9,10]),(12,[10,11,0,1,2]),(12,[11,0,1,2,3,4,5,6]),(12,[11,10,9,8,7,6,5,4])]
def kx8:List Nat:=[2242359570,697665117,2337944449,2374774929,590437381,3162388640,1420738380,2360473648,4211693846,368027908,510663043,1470487268,3284410412,2075739590,2028045317,2184363123,454983138,175476643,1440460409,3234929876,908107181,3702681276,709443554,463772482,3418205348,4152576238,279178472,4275331104,1425092065,3555351137,2993503741,3300866512,563730348,3414534061,379349330,930493595,411420936,1421027955,1657204851,2633080465,4038300301,3714644254,1642860731,3435112800,2594543874]
def kc8:List Nat:=[69057334,675555328,4245190807,3719544072,3338412024,606477220,1836364866,2269601521,3298596460,3831791824,3788355578,283457080,1102192538,3692108457,3954932390,922022559,124283131,3308446054,2507420580,856338107,284002839,2055360681,915368002,635504097,2341156839,4112042752,2622242720,3844383629,784124532,246552644,951439480,543330553,3009867462,1836909183,821528746,3414885476,3571871360,4016549852,88022626,1371721051,240766669,2182193402,3863667265,3349729888,2505492011]
def sgA:List (Nat × List Nat):=sg0 ++ (sg1 ++ (sg2 ++ (sg3 ++ (sg4 ++ (sg5 ++ (sg6 ++ (sg7 ++ (sg8))))))))
def kxA:List Nat:=kx0 ++ (kx1 ++ (kx2 ++ (kx3 ++ (kx4 ++ (kx5 ++ (kx6 ++ (kx7 ++ (kx8))))))))
def kcA:List Nat:=kc0 ++ (kc1 ++ (kc2 ++ (kc3 ++ (kc4 ++ (kc5 ++ (kc6 ++ (kc7 ++ (kc8))))))))
def kxF (l:List UInt8):Nat:=Sha.tailA (Sha.headF l) (l.drop (l.length / 64 * 64)) l.length
def kcF (l:List UInt8):Nat:=Sha.tailA (Sha.headF l) (l.drop (l.length / 64 * 64) ++ [120]) (l.length + 1)
def kOk:List (Nat × List Nat) → List Nat → List Nat → Bool
 | [],[],[]=>true
 | s :: l,x :: m,c :: n=>(fun t=>Nat.ble (t.length % 64) 54 && Nat.ble t.length 300 && Nat.beq (kxF t) x && Nat.beq (kcF t) c) (conG s) && kOk l m n
 | _,_,_=>false
theorem kOk_app:∀ {l m n:List _} {l' m' n':List _},kOk l m n = true → kOk l' m' n' = true → kOk (l ++ l') (m ++ m') (n ++ n') = true
 | [],[],[],_,_,_,_,h=>h
 | [],_ :: _,_,_,_,_,h,_=>by cases h
 | [],[],_ :: _,_,_,_,h,_=>by cases h
 | _ :: _,[],_,_,_,_,h,_=>by cases h
 | _ :: _,_ :: _,[],_,_,_,h,_=>by cases h
 | s :: l,x :: m,c :: n,l',m',n',h,h2=>by
  have h:((fun t=>Nat.ble (t.length % 64) 54 && Nat.ble t.length 300 && Nat.beq (kxF t) x && Nat.beq (kcF t) c) (conG s) && kOk l m n) = true:=h
  rw [Bool.and_eq_true] at h
  show ((fun t=>Nat.ble (t.length % 64) 54 && Nat.ble t.length 300 && Nat.beq (kxF t) x && Nat.beq (kcF t) c) (conG s) && kOk (l ++ l') (m ++ m') (n ++ n')) = true
  rw [Bool.and_eq_true]
  exact ⟨h.1,kOk_app h.2 h2⟩
theorem kOk_at:∀ {l m n:List _} {s:Nat × List Nat},kOk l m n = true → s ∈ l → (conG s).length % 64 ≤ 54 ∧ (conG s).length ≤ 300 ∧ kxF (conG s) ∈ m ∧ kcF (conG s) ∈ n
 | [],_,_,_,_,hs=>by cases hs
 | _ :: _,[],_,_,h,_=>by cases h
 | _ :: _,_ :: _,[],_,h,_=>by cases h
 | t :: l,x :: m,c :: n,s,h,hs=>by
  have h:((fun t=>Nat.ble (t.length % 64) 54 && Nat.ble t.length 300 && Nat.beq (kxF t) x && Nat.beq (kcF t) c) (conG t) && kOk l m n) = true:=h
  simp only [Bool.and_eq_true] at h
  rcases List.mem_cons.1 hs with rfl | hs
  ·exact ⟨Nat.le_of_ble_eq_true h.1.1.1.1,Nat.le_of_ble_eq_true h.1.1.1.2,by rw [Nat.eq_of_beq_eq_true h.1.1.2];exact List.mem_cons_self,by rw [Nat.eq_of_beq_eq_true h.1.2];exact List.mem_cons_self⟩
  ·obtain ⟨a,b,c,d⟩:=kOk_at h.2 hs
   exact ⟨a,b,List.mem_cons_of_mem _ c,List.mem_cons_of_mem _ d⟩
theorem ok0:kOk sg0 kx0 kc0 = true:=by decide +kernel
theorem ok1:kOk sg1 kx1 kc1 = true:=by decide +kernel
theorem ok2:kOk sg2 kx2 kc2 = true:=by decide +kernel
theorem ok3:kOk sg3 kx3 kc3 = true:=by decide +kernel
theorem ok4:kOk sg4 kx4 kc4 = true:=by decide +kernel
theorem ok5:kOk sg5 kx5 kc5 = true:=by decide +kernel
theorem ok6:kOk sg6 kx6 kc6 = true:=by decide +kernel
theorem ok7:kOk sg7 kx7 kc7 = true:=by decide +kernel
theorem ok8:kOk sg8 kx8 kc8 = true:=by decide +kernel
theorem okA:kOk sgA kxA kcA = true:=kOk_app ok0 (kOk_app ok1 (kOk_app ok2 (kOk_app ok3 (kOk_app ok4 (kOk_app ok5 (kOk_app ok6 (kOk_app ok7 ok8)))))))
end Go.Proofs.YtncigfibncmioaaGreatDoor
