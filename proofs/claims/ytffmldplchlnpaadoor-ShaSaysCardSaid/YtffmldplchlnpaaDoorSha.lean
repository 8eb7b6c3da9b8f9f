/- SHA-256 as plain functions of lists of words and bytes; the digest of 'abc'. No conditions. -/
import Derived.Test.YtffmldplchlnpaaDoorWords
namespace Go.Proofs.YtffmldplchlnpaaDoor

def kTab : List W32 := [
  1116352408#32, 1899447441#32, 3049323471#32, 3921009573#32, 961987163#32, 1508970993#32, 2453635748#32, 2870763221#32,
  3624381080#32, 310598401#32, 607225278#32, 1426881987#32, 1925078388#32, 2162078206#32, 2614888103#32, 3248222580#32,
  3835390401#32, 4022224774#32, 264347078#32, 604807628#32, 770255983#32, 1249150122#32, 1555081692#32, 1996064986#32,
  2554220882#32, 2821834349#32, 2952996808#32, 3210313671#32, 3336571891#32, 3584528711#32, 113926993#32, 338241895#32,
  666307205#32, 773529912#32, 1294757372#32, 1396182291#32, 1695183700#32, 1986661051#32, 2177026350#32, 2456956037#32,
  2730485921#32, 2820302411#32, 3259730800#32, 3345764771#32, 3516065817#32, 3600352804#32, 4094571909#32, 275423344#32,
  430227734#32, 506948616#32, 659060556#32, 883997877#32, 958139571#32, 1322822218#32, 1537002063#32, 1747873779#32,
  1955562222#32, 2024104815#32, 2227730452#32, 2361852424#32, 2428436474#32, 2756734187#32, 3204031479#32, 3329325298#32]
def h0 : List W32 := [1779033703#32, 3144134277#32, 1013904242#32, 2773480762#32, 1359893119#32, 2600822924#32, 528734635#32, 1541459225#32]
def be4 (a b c d : UInt8) : W32 := (((BitVec.ofNat 32 a.toNat <<< 24) ||| (BitVec.ofNat 32 b.toNat <<< 16)) ||| (BitVec.ofNat 32 c.toNat <<< 8)) ||| BitVec.ofNat 32 d.toNat
def wordAt (bs : List UInt8) (t : Nat) : W32 := be4 (bs.getD (4 * t) 0) (bs.getD (4 * t + 1) 0) (bs.getD (4 * t + 2) 0) (bs.getD (4 * t + 3) 0)
def wsA (bs : List UInt8) : Nat → List W32
  | 0 => List.replicate 64 0#32
  | t + 1 => (wsA bs t).set t (wordAt bs t)
def sig0 (x : W32) : W32 := rotr x 7 ^^^ rotr x 18 ^^^ (x >>> 3)
def sig1 (x : W32) : W32 := rotr x 17 ^^^ rotr x 19 ^^^ (x >>> 10)
def nextW (ws : List W32) (t : Nat) : W32 := sig1 (ws.getD (t - 2) 0) + ws.getD (t - 7) 0 + sig0 (ws.getD (t - 15) 0) + ws.getD (t - 16) 0
def wsB (bs : List UInt8) : Nat → List W32
  | 0 => wsA bs 16
  | t + 1 => (wsB bs t).set (t + 16) (nextW (wsB bs t) (t + 16))
theorem wsA_len (bs : List UInt8) (t : Nat) : (wsA bs t).length = 64 := by
  induction t with
  | zero => simp [wsA]
  | succ t ih => simp [wsA, ih]
theorem wsB_len (bs : List UInt8) (t : Nat) : (wsB bs t).length = 64 := by
  induction t with
  | zero => simp [wsB, wsA_len]
  | succ t ih => simp [wsB, ih]
structure V8 where
  a : W32
  b : W32
  c : W32
  d : W32
  e : W32
  f : W32
  g : W32
  h : W32
def sum1 (e : W32) : W32 := rotr e 6 ^^^ rotr e 11 ^^^ rotr e 25
def sum0 (a : W32) : W32 := rotr a 2 ^^^ rotr a 13 ^^^ rotr a 22
def cho (e f g : W32) : W32 := (e &&& f) ^^^ (~~~ e &&& g)
def maj (a b c : W32) : W32 := (a &&& b) ^^^ (a &&& c) ^^^ (b &&& c)
def tee (k w : W32) (v : V8) : W32 := v.h + sum1 v.e + cho v.e v.f v.g + k + w
def rnd (k w : W32) (v : V8) : V8 := ⟨tee k w v + (sum0 v.a + maj v.a v.b v.c), v.a, v.b, v.c, v.d + tee k w v, v.e, v.f, v.g⟩
def rnds (ws : List W32) (v : V8) : Nat → V8
  | 0 => v
  | t + 1 => rnd (kTab.getD t 0) (ws.getD t 0) (rnds ws v t)
def v8 (hs : List W32) : V8 := ⟨hs.getD 0 0, hs.getD 1 0, hs.getD 2 0, hs.getD 3 0, hs.getD 4 0, hs.getD 5 0, hs.getD 6 0, hs.getD 7 0⟩
def V8.list (v : V8) : List W32 := [v.a, v.b, v.c, v.d, v.e, v.f, v.g, v.h]
def addUp (hs xs : List W32) : Nat → List W32
  | 0 => hs
  | i + 1 => (addUp hs xs i).set i ((addUp hs xs i).getD i 0 + xs.getD i 0)
theorem addUp_len (hs xs : List W32) (i : Nat) : (addUp hs xs i).length = hs.length := by
  induction i with
  | zero => rfl
  | succ i ih => simp [addUp, ih]
def mixF (hs : List W32) (bs : List UInt8) : List W32 := addUp hs (rnds (wsB bs 48) (v8 hs) 64).list 8
theorem mixF_len (hs : List W32) (bs : List UInt8) : (mixF hs bs).length = hs.length := addUp_len _ _ _
def blk (m : List UInt8) (k : Nat) : List UInt8 := (m.drop (64 * k)).take 64
def hashN (m : List UInt8) : Nat → List W32
  | 0 => h0
  | k + 1 => mixF (hashN m k) (blk m k)
theorem hashN_len (m : List UInt8) (k : Nat) : (hashN m k).length = 8 := by
  induction k with
  | zero => rfl
  | succ k ih => simp [hashN, mixF_len, ih]
def byteN (n s : Nat) : UInt8 := UInt8.ofNat (n / 2 ^ s)
def words4 (n : Nat) : List UInt8 := [byteN n 24, byteN n 16, byteN n 8, byteN n 0]
/-- How many noughts stand behind the sign at a text's end. -/
def noughts (n : Nat) : Nat := if n % 64 < 56 then 55 - n % 64 else 119 - n % 64
def padF (n : Nat) : List UInt8 := 128 :: (List.replicate (noughts n) 0 ++ (words4 (n * 8 / 4294967296) ++ words4 (n * 8)))
def outB (hs : List W32) : List UInt8 := (List.range 32).map fun i => byteN (hs.getD (i / 4) 0).toNat (24 - 8 * (i % 4))
def whole (m : List UInt8) : List UInt8 := m ++ padF m.length
def digest (m : List UInt8) : List UInt8 := outB (hashN (whole m) ((whole m).length / 64))
theorem outB_len (hs : List W32) : (outB hs).length = 32 := by simp [outB]
theorem digest_len (m : List UInt8) : (digest m).length = 32 := outB_len _
def hexDigit (n : Nat) : UInt8 := [48, 49, 50, 51, 52, 53, 54, 55, 56, 57, 97, 98, 99, 100, 101, 102].getD n 0
def hexB (x : UInt8) : List UInt8 := [hexDigit (x.toNat / 16), hexDigit (x.toNat % 16)]
def hexT (l : List UInt8) : List UInt8 := l.flatMap hexB
end Go.Proofs.YtffmldplchlnpaaDoor
