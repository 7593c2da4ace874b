/-
  PROVED HERE: nothing of the program: the plain mathematics of the hash, by numbers: the functions by which the walks say what the program's hash reckons, and small facts on their sizes.
-/
namespace Go.Proofs.YtncigfibncmioaaGreatDoor.Sha
def rotr (x r:Nat):Nat:=x * 2 ^ (32 - r) % 4294967296 ||| x / 2 ^ r
def big3 (x a b c:Nat):Nat:=rotr x a ^^^ rotr x b ^^^ rotr x c
def sm3 (x a b c:Nat):Nat:=rotr x a ^^^ rotr x b ^^^ x / 2 ^ c
def chs (e f g:Nat):Nat:=(e &&& f) ^^^ ((4294967295 - e) &&& g)
def maj (a b c:Nat):Nat:=(a &&& b) ^^^ (a &&& c) ^^^ (b &&& c)
theorem rotr_lt {x r:Nat} (hx:x<4294967296):rotr x r<4294967296:=by
 unfold rotr
 have h1:x * 2 ^ (32 - r) % 4294967296<2 ^ 32:=by have:=Nat.mod_lt (x * 2 ^ (32 - r)) (show 0<4294967296 by omega);omega
 have h2:x / 2 ^ r<2 ^ 32:=by have:=Nat.div_le_self x (2 ^ r);omega
 have:=Nat.or_lt_two_pow h1 h2
 omega
theorem xor_lt {a b:Nat} (ha:a<4294967296) (hb:b<4294967296):a ^^^ b<4294967296:=by
 have:=Nat.xor_lt_two_pow (x:=a) (y:=b) (n:=32) (by omega) (by omega)
 omega
theorem and_lt {a b:Nat} (ha:a<4294967296):a &&& b<4294967296:=by
 have:=Nat.and_le_left (n:=a) (m:=b)
 omega
theorem div_lt {a r:Nat} (ha:a<4294967296):a / 2 ^ r<4294967296:=by have:=Nat.div_le_self a (2 ^ r);omega
structure St where
 a:Nat
 b:Nat
 c:Nat
 d:Nat
 e:Nat
 f:Nat
 g:Nat
 h:Nat
structure St.Ok (s:St):Prop where
 a:s.a<4294967296
 b:s.b<4294967296
 c:s.c<4294967296
 d:s.d<4294967296
 e:s.e<4294967296
 f:s.f<4294967296
 g:s.g<4294967296
 h:s.h<4294967296
def tOf (s:St) (k w:Nat):Nat:=(s.h+big3 s.e 6 11 25+chs s.e s.f s.g+k+w) % 4294967296
def uOf (s:St):Nat:=(big3 s.a 2 13 22+maj s.a s.b s.c) % 4294967296
def step (s:St) (k w:Nat):St:=⟨(tOf s k w+uOf s) % 4294967296,s.a,s.b,s.c,(s.d+tOf s k w) % 4294967296,s.e,s.f,s.g⟩
theorem step_ok {s:St} (h:s.Ok) (k w:Nat):(step s k w).Ok :=
 ⟨Nat.mod_lt _ (by omega),h.a,h.b,h.c,Nat.mod_lt _ (by omega),h.e,h.f,h.g⟩
def add (s v:St):St:=⟨(s.a+v.a) % 4294967296,(s.b+v.b) % 4294967296,(s.c+v.c) % 4294967296,(s.d+v.d) % 4294967296,(s.e+v.e) % 4294967296,(s.f+v.f) % 4294967296,(s.g+v.g) % 4294967296,(s.h+v.h) % 4294967296⟩
theorem add_ok (s v:St):(add s v).Ok:=⟨Nat.mod_lt _ (by omega),Nat.mod_lt _ (by omega),Nat.mod_lt _ (by omega),Nat.mod_lt _ (by omega),Nat.mod_lt _ (by omega),Nat.mod_lt _ (by omega),Nat.mod_lt _ (by omega),Nat.mod_lt _ (by omega)⟩
def kTab:List Nat:=[1116352408,1899447441,3049323471,3921009573,961987163,1508970993,2453635748,2870763221,3624381080,310598401,607225278,1426881987,1925078388,2162078206,2614888103,3248222580,3835390401,4022224774,264347078,604807628,770255983,1249150122,1555081692,1996064986,2554220882,2821834349,2952996808,3210313671,3336571891,3584528711,113926993,338241895,666307205,773529912,1294757372,1396182291,1695183700,1986661051,2177026350,2456956037,2730485921,2820302411,3259730800,3345764771,3516065817,3600352804,4094571909,275423344,430227734,506948616,659060556,883997877,958139571,1322822218,1537002063,1747873779,1955562222,2024104815,2227730452,2361852424,2428436474,2756734187,3204031479,3329325298]
def roundsTo (ws:List Nat) (v:St):Nat→St
 | 0=>v
 | k+1=>step (roundsTo ws v k) (kTab.getD k 0) (ws.getD k 0)
theorem roundsTo_ok {ws:List Nat} {v:St} (h:v.Ok) (k:Nat):(roundsTo ws v k).Ok:=by
 induction k with
 | zero=>exact h
 | succ k ih=>exact step_ok ih _ _
def word4 (a b c d:Nat):Nat:=((a * 16777216 ||| b * 65536) ||| c * 256) ||| d
def byteAt (bs:List UInt8) (i:Nat):Nat:=(bs.getD i 0).toNat
def wordAt (bs:List UInt8) (i:Nat):Nat:=word4 (byteAt bs (4 * i)) (byteAt bs (4 * i+1)) (byteAt bs (4 * i+2)) (byteAt bs (4 * i+3))
def wNext (ws:List Nat) (i:Nat):Nat:=(sm3 (ws.getD (i - 2) 0) 17 19 10+ws.getD (i - 7) 0+sm3 (ws.getD (i - 15) 0) 7 18 3+ws.getD (i - 16) 0) % 4294967296
def zeros (n:Nat):List Nat:=List.replicate n 0
theorem zeros_len (n:Nat):(zeros n).length=n:=by simp [zeros]
def wOne (bs:List UInt8):Nat→List Nat
 | 0=>zeros 64
 | k+1=>(wOne bs k).set k (wordAt bs k)
def wTwo (bs:List UInt8):Nat→List Nat
 | 0=>wOne bs 16
 | k+1=>(wTwo bs k).set (k+16) (wNext (wTwo bs k) (k+16))
def words (bs:List UInt8):List Nat:=wTwo bs 48
def block (s:St) (bs:List UInt8):St:=add s (roundsTo (words bs) s 64)
theorem wOne_len (bs:List UInt8) (k:Nat):(wOne bs k).length=64:=by
 induction k with
 | zero=>simp [wOne,zeros]
 | succ k ih=>simp [wOne,ih]
theorem wTwo_len (bs:List UInt8) (k:Nat):(wTwo bs k).length=64:=by
 induction k with
 | zero=>exact wOne_len bs 16
 | succ k ih=>simp [wTwo,ih]
theorem words_len (bs:List UInt8):(words bs).length=64:=wTwo_len bs 48
def addTo (l m:List Nat):Nat→List Nat
 | 0=>l
 | i+1=>(addTo l m i).set i ((l.getD i 0+m.getD i 0) % 4294967296)
theorem addTo_len (l m:List Nat) (i:Nat):(addTo l m i).length=l.length:=by
 induction i with
 | zero=>rfl
 | succ i ih=>simp [addTo,ih]
theorem addTo_past (l m:List Nat) (i j:Nat) (h:i≤j):(addTo l m i).getD j 0=l.getD j 0:=by
 induction i with
 | zero=>rfl
 | succ i ih =>
  have:=ih (by omega)
  simp only [addTo,List.getD_eq_getElem?_getD,List.getElem?_set] at *
  rw [if_neg (by omega)]
  exact this
theorem addTo_at (l m:List Nat) (i:Nat):(addTo l m i).getD i 0=l.getD i 0:=addTo_past l m i i (Nat.le_refl _)
theorem word4_lt {a b c d:Nat} (ha:a<256) (hb:b<256) (hc:c<256) (hd:d<256):word4 a b c d<4294967296:=by
 have h1:=Nat.or_lt_two_pow (n:=32) (x:=a * 16777216) (y:=b * 65536) (by omega) (by omega)
 have h2:=Nat.or_lt_two_pow (n:=32) (x:=a * 16777216 ||| b * 65536) (y:=c * 256) h1 (by omega)
 have h3:=Nat.or_lt_two_pow (n:=32) (x:=(a * 16777216 ||| b * 65536) ||| c * 256) (y:=d) h2 (by omega)
 exact h3
theorem byteAt_lt (bs:List UInt8) (i:Nat):byteAt bs i<256:=UInt8.toNat_lt _
theorem getD_set_lt {ws:List Nat} (h:∀ i,ws.getD i 0<4294967296) (k n:Nat) (hn:n<4294967296) (i:Nat):(ws.set k n).getD i 0<4294967296:=by
 have:=h i
 simp only [List.getD_eq_getElem?_getD,List.getElem?_set] at *
 split
 ·split
  ·exact hn
  ·simp
 ·exact this
theorem wOne_lt (bs:List UInt8) (k i:Nat):(wOne bs k).getD i 0<4294967296:=by
 induction k generalizing i with
 | zero =>
  simp only [wOne,zeros,List.getD_eq_getElem?_getD,List.getElem?_replicate]
  split<;>simp
 | succ k ih=>exact getD_set_lt ih _ _ (word4_lt (byteAt_lt _ _) (byteAt_lt _ _) (byteAt_lt _ _) (byteAt_lt _ _)) i
theorem wTwo_lt (bs:List UInt8) (k i:Nat):(wTwo bs k).getD i 0<4294967296:=by
 induction k generalizing i with
 | zero=>exact wOne_lt bs 16 i
 | succ k ih=>exact getD_set_lt ih _ _ (Nat.mod_lt _ (by omega)) i
end Go.Proofs.YtncigfibncmioaaGreatDoor.Sha
namespace Go.Proofs.YtncigfibncmioaaGreatDoor.Sha
theorem block_ok (s:St) (bs:List UInt8):(block s bs).Ok:=add_ok _ _
def allTo (s:St) (l:List UInt8):Nat→St
 | 0=>s
 | k+1=>block (allTo s l k) ((l.drop (64 * k)).take 64)
theorem allTo_ok {s:St} (h:s.Ok) (l:List UInt8) (k:Nat):(allTo s l k).Ok:=by
 cases k with
 | zero=>exact h
 | succ k=>exact block_ok _ _
def start:St:=⟨1779033703,3144134277,1013904242,2773480762,1359893119,2600822924,528734635,1541459225⟩
theorem start_ok:start.Ok:=⟨by decide,by decide,by decide,by decide,by decide,by decide,by decide,by decide⟩
def dBytes (l:List Nat):Nat→List Nat
 | 0=>zeros 32
 | i+1=>((((dBytes l i).set (4 * i) (l.getD i 0 / 16777216 % 256)).set (4 * i+1) (l.getD i 0 / 65536 % 256)).set (4 * i+2) (l.getD i 0 / 256 % 256)).set (4 * i+3) (l.getD i 0 % 256)
theorem dBytes_len (l:List Nat) (i:Nat):(dBytes l i).length=32:=by
 induction i with
 | zero=>simp [dBytes,zeros]
 | succ i ih=>simp [dBytes,ih]
theorem getD_set_lt' {B:Nat} {ws:List Nat} (hB:0<B) (h:∀ i,ws.getD i 0<B) (k n:Nat) (hn:n<B) (i:Nat):(ws.set k n).getD i 0<B:=by
 have:=h i
 simp only [List.getD_eq_getElem?_getD,List.getElem?_set] at *
 split
 ·split
  ·exact hn
  ·exact hB
 ·exact this
theorem dBytes_lt (l:List Nat) (k i:Nat):(dBytes l k).getD i 0<256:=by
 induction k generalizing i with
 | zero =>
  simp only [dBytes,zeros,List.getD_eq_getElem?_getD,List.getElem?_replicate]
  split<;>simp
 | succ k ih =>
  have p:0<256:=by omega
  exact getD_set_lt' p (getD_set_lt' p (getD_set_lt' p (getD_set_lt' p ih _ _ (Nat.mod_lt _ p)) _ _ (Nat.mod_lt _ p)) _ _ (Nat.mod_lt _ p)) _ _ (Nat.mod_lt _ p) i
def St.list (s:St):List Nat:=[s.a,s.b,s.c,s.d,s.e,s.f,s.g,s.h]
def digest (s:St):List Nat:=dBytes s.list 8
def letters:List UInt8:=[48,49,50,51,52,53,54,55,56,57,97,98,99,100,101,102]
def hexd (n:Nat):UInt8:=letters.getD n 0
def textTo (bs:List Nat):Nat→List UInt8
 | 0=>[]
 | k+1=>textTo bs k ++ [hexd (bs.getD k 0 / 16),hexd (bs.getD k 0 % 16)]
theorem textTo_len (bs:List Nat) (k:Nat):(textTo bs k).length=2 * k:=by
 induction k with
 | zero=>rfl
 | succ k ih=>simp [textTo,ih];omega
def fillZ (l:List UInt8):Nat→List UInt8
 | 0=>l ++ [128]
 | k+1=>fillZ l k ++ [0]
theorem fillZ_len (l:List UInt8) (k:Nat):(fillZ l k).length=l.length+1+k:=by
 induction k with
 | zero=>simp [fillZ]
 | succ k ih=>simp [fillZ,ih];omega
def fillL (l:List UInt8) (n:Nat):Nat→List UInt8
 | 0=>l
 | k+1=>fillL l n k ++ [UInt8.ofNat (n / 2 ^ (8 * (7 - k)) % 256)]
theorem fillL_len (l:List UInt8) (n k:Nat):(fillL l n k).length=l.length+k:=by
 induction k with
 | zero=>simp [fillL]
 | succ k ih=>simp [fillL,ih];omega
def gap (n:Nat):Nat:=(119 - n % 64) % 64
def fill (l:List UInt8) (n:Nat):List UInt8:=fillL (fillZ l (gap l.length)) (n * 8 % 18446744073709551616) 8
theorem fill_len (l:List UInt8) (n:Nat):(fill l n).length=l.length+9+gap l.length:=by
 simp only [fill,fillL_len,fillZ_len];omega
theorem fill_mod (l:List UInt8) (n:Nat):(fill l n).length % 64=0:=by
 rw [fill_len];unfold gap;omega
def whole (l:List UInt8):Nat:=l.length / 64 * 64
def state (l:List UInt8):St :=
 allTo (allTo start (l.take (whole l)) (l.length / 64)) (fill (l.drop (whole l)) l.length) ((fill (l.drop (whole l)) l.length).length / 64)
def hash (l:List UInt8):List UInt8:=textTo (digest (state l)) 32
end Go.Proofs.YtncigfibncmioaaGreatDoor.Sha
