/-
  PROVED HERE: nothing of the program: the plain mathematics of the hash, by numbers: the functions by which the walks say what the program's hash reckons, and small facts on their sizes.
-/
namespace Go.Proofs.YtncigfibncmioaaGreatDoor.Sha
def iU (x r:Nat):Nat:=x * 2 ^ (32 - r) % 4294967296 ||| x / 2 ^ r
def kD (x a b c:Nat):Nat:=iU x a ^^^ iU x b ^^^ iU x c
def JF (x a b c:Nat):Nat:=iU x a ^^^ iU x b ^^^ x / 2 ^ c
def IP (e f g:Nat):Nat:=(e &&& f) ^^^ ((4294967295 - e) &&& g)
def Oa (a b c:Nat):Nat:=(a &&& b) ^^^ (a &&& c) ^^^ (b &&& c)
theorem ew {x r:Nat} (hx:x<4294967296):iU x r<4294967296:=by
 unfold iU;have h1:x * 2 ^ (32 - r) % 4294967296<2 ^ 32:=by have:=Nat.mod_lt (x * 2 ^ (32 - r)) (show 0<4294967296 by omega);omega
 have h2:x / 2 ^ r<2 ^ 32:=by have:=Nat.div_le_self x (2 ^ r);omega
 have:=Nat.or_lt_two_pow h1 h2;omega
theorem sj {a b:Nat} (ha:a<4294967296) (hb:b<4294967296):a ^^^ b<4294967296:=by
 have:=Nat.xor_lt_two_pow (x:=a) (y:=b) (n:=32) (by omega) (by omega);omega
theorem iH {a b:Nat} (ha:a<4294967296):a &&& b<4294967296:=by
 have:=Nat.and_le_left (n:=a) (m:=b);omega
theorem div_lt {a r:Nat} (ha:a<4294967296):a / 2 ^ r<4294967296:=by have:=Nat.div_le_self a (2 ^ r);omega
structure St where
 a:Nat
 b:Nat
 c:Nat
 d:Nat
 e:Nat
 f:Nat
 g:Nat
 h:Nat
structure St.Ok (s:St):Prop where
 a:s.a<4294967296
 b:s.b<4294967296
 c:s.c<4294967296
 d:s.d<4294967296
 e:s.e<4294967296
 f:s.f<4294967296
 g:s.g<4294967296
 h:s.h<4294967296
def Ob (s:St) (k w:Nat):Nat:=(s.h+kD s.e 6 11 25+IP s.e s.f s.g+k+w) % 4294967296
def WZ (s:St):Nat:=(kD s.a 2 13 22+Oa s.a s.b s.c) % 4294967296
def step (s:St) (k w:Nat):St:=⟨(Ob s k w+WZ s) % 4294967296,s.a,s.b,s.c,(s.d+Ob s k w) % 4294967296,s.e,s.f,s.g⟩
theorem QsW {s:St} (h:s.Ok) (k w:Nat):(step s k w).Ok :=
 ⟨Nat.mod_lt _ (by omega),h.a,h.b,h.c,Nat.mod_lt _ (by omega),h.e,h.f,h.g⟩
def add (s v:St):St:=⟨(s.a+v.a) % 4294967296,(s.b+v.b) % 4294967296,(s.c+v.c) % 4294967296,(s.d+v.d) % 4294967296,(s.e+v.e) % 4294967296,(s.f+v.f) % 4294967296,(s.g+v.g) % 4294967296,(s.h+v.h) % 4294967296⟩
theorem QuD (s v:St):(add s v).Ok:=⟨Nat.mod_lt _ (by omega),Nat.mod_lt _ (by omega),Nat.mod_lt _ (by omega),Nat.mod_lt _ (by omega),Nat.mod_lt _ (by omega),Nat.mod_lt _ (by omega),Nat.mod_lt _ (by omega),Nat.mod_lt _ (by omega)⟩
def sg:List Nat:=[1116352408,1899447441,3049323471,3921009573,961987163,1508970993,2453635748,2870763221,3624381080,310598401,607225278,1426881987,1925078388,2162078206,2614888103,3248222580,3835390401,4022224774,264347078,604807628,770255983,1249150122,1555081692,1996064986,2554220882,2821834349,2952996808,3210313671,3336571891,3584528711,113926993,338241895,666307205,773529912,1294757372,1396182291,1695183700,1986661051,2177026350,2456956037,2730485921,2820302411,3259730800,3345764771,3516065817,3600352804,4094571909,275423344,430227734,506948616,659060556,883997877,958139571,1322822218,1537002063,1747873779,1955562222,2024104815,2227730452,2361852424,2428436474,2756734187,3204031479,3329325298]
def eC (ws:List Nat) (v:St):Nat->St
 | 0=>v
 | k+1=>step (eC ws v k) (sg.getD k 0) (ws.getD k 0)
theorem p8 {ws:List Nat} {v:St} (h:v.Ok) (k:Nat):(eC ws v k).Ok:=by
 induction k with
 | zero=>exact h
 | succ k ih=>exact QsW ih _ _
def QuE (a b c d:Nat):Nat:=((a * 16777216 ||| b * 65536) ||| c * 256) ||| d
def bj (bs:List UInt8) (i:Nat):Nat:=(bs.getD i 0).toNat
def zH (bs:List UInt8) (i:Nat):Nat:=QuE (bj bs (4 * i)) (bj bs (4 * i+1)) (bj bs (4 * i+2)) (bj bs (4 * i+3))
def uZ (ws:List Nat) (i:Nat):Nat:=(JF (ws.getD (i - 2) 0) 17 19 10+ws.getD (i - 7) 0+JF (ws.getD (i - 15) 0) 7 18 3+ws.getD (i - 16) 0) % 4294967296
def zeros (n:Nat):List Nat:=List.replicate n 0
theorem af (n:Nat):(zeros n).length=n:=by simp [zeros]
def q9 (bs:List UInt8):Nat->List Nat
 | 0=>zeros 64
 | k+1=>(q9 bs k).set k (zH bs k)
def fB (bs:List UInt8):Nat->List Nat
 | 0=>q9 bs 16
 | k+1=>(fB bs k).set (k+16) (uZ (fB bs k) (k+16))
def words (bs:List UInt8):List Nat:=fB bs 48
def block (s:St) (bs:List UInt8):St:=add s (eC (words bs) s 64)
theorem ra (bs:List UInt8) (k:Nat):(q9 bs k).length=64:=by
 induction k with
 | zero=>simp [q9,zeros]
 | succ k ih=>simp [q9,ih]
theorem cV (bs:List UInt8) (k:Nat):(fB bs k).length=64:=by
 induction k with
 | zero=>exact ra bs 16
 | succ k ih=>simp [fB,ih]
theorem vp (bs:List UInt8):(words bs).length=64:=cV bs 48
def lJ (l m:List Nat):Nat->List Nat
 | 0=>l
 | i+1=>(lJ l m i).set i ((l.getD i 0+m.getD i 0) % 4294967296)
theorem vo (l m:List Nat) (i:Nat):(lJ l m i).length=l.length:=by
 induction i with
 | zero=>rfl
 | succ i ih=>simp [lJ,ih]
theorem QmR (l m:List Nat) (i j:Nat) (h:i<=j):(lJ l m i).getD j 0=l.getD j 0:=by
 induction i with
 | zero=>rfl
 | succ i ih =>
  have:=ih (by omega);simp only [lJ,List.getD_eq_getElem?_getD,List.getElem?_set] at *;rw [if_neg (by omega)];exact this
theorem xx (l m:List Nat) (i:Nat):(lJ l m i).getD i 0=l.getD i 0:=QmR l m i i (Nat.le_refl _)
theorem QqA {a b c d:Nat} (ha:a<256) (hb:b<256) (hc:c<256) (hd:d<256):QuE a b c d<4294967296:=by
 have h1:=Nat.or_lt_two_pow (n:=32) (x:=a * 16777216) (y:=b * 65536) (by omega) (by omega);have h2:=Nat.or_lt_two_pow (n:=32) (x:=a * 16777216 ||| b * 65536) (y:=c * 256) h1 (by omega);have h3:=Nat.or_lt_two_pow (n:=32) (x:=(a * 16777216 ||| b * 65536) ||| c * 256) (y:=d) h2 (by omega);exact h3
theorem PC (bs:List UInt8) (i:Nat):bj bs i<256:=UInt8.toNat_lt _
theorem QgP {ws:List Nat} (h:∀ i,ws.getD i 0<4294967296) (k n:Nat) (hn:n<4294967296) (i:Nat):(ws.set k n).getD i 0<4294967296:=by
 have:=h i;simp only [List.getD_eq_getElem?_getD,List.getElem?_set] at *
 split
 ·split
  ·exact hn
  ·simp
 ·exact this
theorem QsX (bs:List UInt8) (k i:Nat):(q9 bs k).getD i 0<4294967296:=by
 induction k generalizing i with
 | zero =>
  simp only [q9,zeros,List.getD_eq_getElem?_getD,List.getElem?_replicate]
  split<;>simp
 | succ k ih=>exact QgP ih _ _ (QqA (PC _ _) (PC _ _) (PC _ _) (PC _ _)) i
theorem vd (bs:List UInt8) (k i:Nat):(fB bs k).getD i 0<4294967296:=by
 induction k generalizing i with
 | zero=>exact QsX bs 16 i
 | succ k ih=>exact QgP ih _ _ (Nat.mod_lt _ (by omega)) i
end Go.Proofs.YtncigfibncmioaaGreatDoor.Sha
namespace Go.Proofs.YtncigfibncmioaaGreatDoor.Sha
theorem QqB (s:St) (bs:List UInt8):(block s bs).Ok:=QuD _ _
def jh (s:St) (l:List UInt8):Nat->St
 | 0=>s
 | k+1=>block (jh s l k) ((l.drop (64 * k)).take 64)
theorem p7 {s:St} (h:s.Ok) (l:List UInt8) (k:Nat):(jh s l k).Ok:=by
 cases k with
 | zero=>exact h
 | succ k=>exact QqB _ _
def start:St:=⟨1779033703,3144134277,1013904242,2773480762,1359893119,2600822924,528734635,1541459225⟩
theorem qz:start.Ok:=⟨by decide,by decide,by decide,by decide,by decide,by decide,by decide,by decide⟩
def gM (l:List Nat):Nat->List Nat
 | 0=>zeros 32
 | i+1=>((((gM l i).set (4 * i) (l.getD i 0 / 16777216 % 256)).set (4 * i+1) (l.getD i 0 / 65536 % 256)).set (4 * i+2) (l.getD i 0 / 256 % 256)).set (4 * i+3) (l.getD i 0 % 256)
theorem bm (l:List Nat) (i:Nat):(gM l i).length=32:=by
 induction i with
 | zero=>simp [gM,zeros]
 | succ i ih=>simp [gM,ih]
theorem PD {B:Nat} {ws:List Nat} (hB:0<B) (h:∀ i,ws.getD i 0<B) (k n:Nat) (hn:n<B) (i:Nat):(ws.set k n).getD i 0<B:=by
 have:=h i;simp only [List.getD_eq_getElem?_getD,List.getElem?_set] at *
 split
 ·split
  ·exact hn
  ·exact hB
 ·exact this
theorem jV (l:List Nat) (k i:Nat):(gM l k).getD i 0<256:=by
 induction k generalizing i with
 | zero =>
  simp only [gM,zeros,List.getD_eq_getElem?_getD,List.getElem?_replicate]
  split<;>simp
 | succ k ih =>
  have p:0<256:=by omega
  exact PD p (PD p (PD p (PD p ih _ _ (Nat.mod_lt _ p)) _ _ (Nat.mod_lt _ p)) _ _ (Nat.mod_lt _ p)) _ _ (Nat.mod_lt _ p) i
def St.list (s:St):List Nat:=[s.a,s.b,s.c,s.d,s.e,s.f,s.g,s.h]
def digest (s:St):List Nat:=gM s.list 8
def QkI:List UInt8:=[48,49,50,51,52,53,54,55,56,57,97,98,99,100,101,102]
def dW (n:Nat):UInt8:=QkI.getD n 0
def aM (bs:List Nat):Nat->List UInt8
 | 0=>[]
 | k+1=>aM bs k ++ [dW (bs.getD k 0 / 16),dW (bs.getD k 0 % 16)]
theorem bq (bs:List Nat) (k:Nat):(aM bs k).length=2 * k:=by
 induction k with
 | zero=>rfl
 | succ k ih=>simp [aM,ih];omega
def js (l:List UInt8):Nat->List UInt8
 | 0=>l ++ [128]
 | k+1=>js l k ++ [0]
theorem gY (l:List UInt8) (k:Nat):(js l k).length=l.length+1+k:=by
 induction k with
 | zero=>simp [js]
 | succ k ih=>simp [js,ih];omega
def jt (l:List UInt8) (n:Nat):Nat->List UInt8
 | 0=>l
 | k+1=>jt l n k ++ [UInt8.ofNat (n / 2 ^ (8 * (7 - k)) % 256)]
theorem oF (l:List UInt8) (n k:Nat):(jt l n k).length=l.length+k:=by
 induction k with
 | zero=>simp [jt]
 | succ k ih=>simp [jt,ih];omega
def Ax (n:Nat):Nat:=(119 - n % 64) % 64
def fill (l:List UInt8) (n:Nat):List UInt8:=jt (js l (Ax l.length)) (n * 8 % 18446744073709551616) 8
theorem qA (l:List UInt8) (n:Nat):(fill l n).length=l.length+9+Ax l.length:=by
 simp only [fill,oF,gY];omega
theorem yo (l:List UInt8) (n:Nat):(fill l n).length % 64=0:=by
 rw [qA];unfold Ax;omega
def whole (l:List UInt8):Nat:=l.length / 64 * 64
def state (l:List UInt8):St :=
 jh (jh start (l.take (whole l)) (l.length / 64)) (fill (l.drop (whole l)) l.length) ((fill (l.drop (whole l)) l.length).length / 64)
def hash (l:List UInt8):List UInt8:=aM (digest (state l)) 32
end Go.Proofs.YtncigfibncmioaaGreatDoor.Sha
