/- The plain model of trees: nodes, what a node may be, what its kids may be, the check from the front on. -/
import Derived.Test.YtaonojimpfhkfaaRows
import Derived.WalkKit
import Derived.Below
import Derived.Lib.Hide
import Derived.Lib.IndexMore
namespace Go.Proofs.Ytaonojimpfhkfaa.As

/-- A node: its kind, its place, its text, its number, its kids; and where the kids' row lies. -/
structure Nd where
  kind : Int
  loc : Int
  text : ByteArray
  num : Int
  kids : List Int
  ka : Option Addr
  kc : Nat

def isE (k : Int) : Bool := decide (1 ≤ k) && decide (k ≤ 21)
def isS (k : Int) : Bool := decide (26 ≤ k) && decide (k ≤ 43)
def isT (k : Int) : Bool := decide (k = 6) || decide (k = 8) || decide (k = 14) || decide (k = 15)
def isL (k : Int) : Bool := decide (1 ≤ k) && decide (k ≤ 5)

/-! texts of operators -/
def levs : List (List (List UInt8)) := [[[124, 124]], [[38, 38]], [[124]], [[94]], [[38]], [[61, 61], [33, 61], [60, 61, 62]], [[60], [60, 61], [62], [62, 61], [105, 110], [105, 110, 115, 116, 97, 110, 99, 101, 111, 102]], [[60, 60], [62, 62], [62, 62, 62]], [[43], [45]], [[42], [47], [37]]]
def levN (l : List UInt8) : List (List (List UInt8)) → Int → Int
  | [], _ => -1
  | x :: r, k => if x.contains l = true then k else levN l r (k + 1)
def lev (l : List UInt8) : Int := levN l levs 0
def uns : List (List UInt8) := [[45], [33], [126], [116, 121, 112, 101, 111, 102], [99, 108, 111, 110, 101], [114, 101, 115, 117, 109, 101], [100, 101, 108, 101, 116, 101]]
def asg : List (List UInt8) := [[61], [60, 45], [43, 61], [45, 61], [42, 61], [47, 61], [37, 61]]
def stp : List (List UInt8) := [[43, 43], [45, 45]]
def del : List UInt8 := [100, 101, 108, 101, 116, 101]

/-- Tests of a kid's kind. -/
inductive Tst
  | e | s | tg | lt
  | one (ks : List Int)
  | pe
  | po (ks : List Int)
def Tst.ok : Tst → Int → Bool
  | .e, k => isE k
  | .s, k => isS k
  | .tg, k => isT k
  | .lt, k => isL k
  | .one ks, k => ks.contains k
  | .pe, k => decide (k = 0) || isE k
  | .po ks, k => decide (k = 0) || ks.contains k

def allB (ks : List Int) (t : Tst) : Bool := ks.all t.ok
def rowB : List Int → List Tst → Bool
  | [], [] => true
  | k :: ks, t :: ts => t.ok k && rowB ks ts
  | _, _ => false
def headB (ks : List Int) (a b : Tst) : Bool := match ks with
  | [] => false
  | k :: r => a.ok k && allB r b

def exB (n : Nd) (ks : List Int) : Bool :=
  if n.kind = 9 then (if n.text.toList = del then rowB ks [.tg] else rowB ks [.e])
  else if n.kind = 15 then rowB ks [.e]
  else if n.kind = 10 ∨ n.kind = 14 ∨ n.kind = 23 then rowB ks [.e, .e]
  else if n.kind = 11 then rowB ks [.e, .e, .e]
  else if n.kind = 12 then rowB ks [.tg, .e]
  else if n.kind = 13 then rowB ks [.tg]
  else if n.kind = 17 then headB ks .e .e
  else if n.kind = 18 then allB ks .e
  else if n.kind = 19 then decide (ks.length % 2 = 0) && allB ks .e
  else if n.kind = 20 then decide (1 ≤ ks.length) && (decide (n.num = (ks.length : Int) - 1) && (allB (ks.take (ks.length - 1)) (.one [22]) && decide (ks.drop (ks.length - 1) = [26])))
  else if n.kind = 21 then headB ks .pe (.one [23])
  else if n.kind = 22 then rowB ks [.pe]
  else if n.kind = 24 then headB ks .pe .s
  else decide (ks.length = 0)
def stB (k : Int) (ks : List Int) : Bool :=
  if k = 26 then allB ks .s
  else if k = 27 ∨ k = 37 ∨ k = 38 then rowB ks [.pe]
  else if k = 28 ∨ k = 39 then rowB ks [.e]
  else if k = 29 then rowB ks [.e, .one [26], .po [26, 29]]
  else if k = 30 ∨ k = 33 then rowB ks [.e, .one [26]]
  else if k = 31 then rowB ks [.one [26], .e]
  else if k = 32 then rowB ks [.po [27, 28], .pe, .pe, .one [26]]
  else if k = 40 then rowB ks [.one [26], .one [26]]
  else if k = 41 then rowB ks [.lt]
  else if k = 42 then allB ks (.one [25])
  else decide (ks.length = 0)
/-! a node by itself -/
/-- A name that has no meaning of its own: 'nameB' and 'wordB' are told by the layers below. -/
structure Words where
  name : List UInt8 → Bool
  word : List UInt8 → Bool
def nmd (P : Words) (l : List UInt8) : Bool := P.name l && !P.word l
def ctor : List UInt8 := [99, 111, 110, 115, 116, 114, 117, 99, 116, 111, 114]
/-- The text of a foreach: parted at the first tab. -/
def fch (P : Words) (l : List UInt8) : Bool :=
  (Lib.cut l [9]).2.2 && ((decide ((Lib.cut l [9]).1 = []) || nmd P (Lib.cut l [9]).1) && (nmd P (Lib.cut l [9]).2.1 && decide ((Lib.cut l [9]).1 ≠ (Lib.cut l [9]).2.1)))
def textB (P : Words) (k : Int) (l : List UInt8) : Bool :=
  if k = 5 then true
  else if k = 6 ∨ k = 8 ∨ k = 15 ∨ k = 22 ∨ k = 27 ∨ k = 40 ∨ k = 41 ∨ k = 42 ∨ k = 25 then nmd P l
  else if k = 16 then nmd P l || decide (l = ctor)
  else if k = 20 ∨ k = 21 then decide (l = []) || nmd P l
  else if k = 9 then uns.contains l
  else if k = 10 then decide (0 ≤ lev l)
  else if k = 12 then asg.contains l
  else if k = 13 then stp.contains l
  else if k = 33 then fch P l
  else decide (l = [])
def numB (k m : Int) : Bool :=
  if k = 4 ∨ k = 25 ∨ k = 20 then true
  else if k = 13 then decide (m = 0) || decide (m = 1)
  else decide (m = 0)
def aloneB (P : Words) (n : Nd) : Bool := decide (1 ≤ n.kind) && (decide (n.kind < 44) && (decide (0 ≤ n.loc) && (textB P n.kind n.text.toList && numB n.kind n.num)))

/-! the check -/
def kindAt (L : List Nd) (i : Nat) : Int := match L[i]? with
  | some n => n.kind
  | none => 0
def headKid (L : List Nd) (i : Nat) : Int := match L[i]? with
  | some n => n.kids.headD 0
  | none => 0
def defs (L : List Nd) (cs : List Int) : Nat := (cs.filter fun x => decide (headKid L x.toNat = -1)).length
def kidsB (L : List Nd) (n : Nd) (ks : List Int) : Bool :=
  if n.kind = 34 then headB ks .e (.one [24]) && decide (defs L (n.kids.drop 1) ≤ 1)
  else if isS n.kind = true then stB n.kind ks
  else exB n ks
/-- What came of kids: the error, which nodes are kids, how deep it is, the kids' kinds. -/
structure Kd where
  code : Int
  kid : List Bool
  deep : Int
  kinds : List Int
def goK (L : List Nd) (D : List Int) (i : Nat) : List Int → List Bool → Int → List Int → Kd
  | [], K, d, ks => ⟨0, K, d, ks⟩
  | x :: r, K, d, ks =>
    if x < -1 ∨ (i : Int) ≤ x then ⟨3, K, d, ks⟩
    else if x = -1 then goK L D i r K d (ks ++ [0])
    else if K[x.toNat]? = some true then ⟨4, K, d, ks⟩
    else goK L D i r (K.set x.toNat true) (max d (D.getD x.toNat 0 + 1)) (ks ++ [kindAt L x.toNat])
/-- What came of a node: the error, which nodes are kids, how deep it is. -/
structure Ns where
  code : Int
  kid : List Bool
  deep : Int
def nodC (P : Words) (L : List Nd) (D : List Int) (i : Nat) (n : Nd) (K : List Bool) : Ns :=
  if aloneB P n = false then ⟨5, K, 0⟩
  else if (goK L D i n.kids K 0 []).code ≠ 0 then ⟨(goK L D i n.kids K 0 []).code, (goK L D i n.kids K 0 []).kid, 0⟩
  else if kidsB L n (goK L D i n.kids K 0 []).kinds = false then ⟨30, (goK L D i n.kids K 0 []).kid, 0⟩
  else if 200 < (goK L D i n.kids K 0 []).deep then ⟨6, (goK L D i n.kids K 0 []).kid, 0⟩
  else ⟨0, (goK L D i n.kids K 0 []).kid, (goK L D i n.kids K 0 []).deep⟩
def endC (L : List Nd) (K : List Bool) : Int × Int :=
  if kindAt L (L.length - 1) ≠ 26 then (30, (L.length : Int) - 1)
  else match (K.take (L.length - 1)).findIdx? (· == false) with
    | some i => (3, (i : Int))
    | none => (0, 0)
def goC (P : Words) (L : List Nd) : List Nd → Nat → List Bool → List Int → Int × Int
  | [], _, K, _ => endC L K
  | n :: r, i, K, D => if (nodC P L D i n K).code ≠ 0 then ((nodC P L D i n K).code, (i : Int)) else goC P L r (i + 1) (nodC P L D i n K).kid (D ++ [(nodC P L D i n K).deep])
def chk (P : Words) (L : List Nd) : Int × Int :=
  if L.length = 0 ∨ 131072 < L.length then (2, 0) else goC P L L 0 (List.replicate L.length false) []
end Go.Proofs.Ytaonojimpfhkfaa.As
