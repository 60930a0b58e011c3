import PyProof.Rows.All
import Wide.All
import OpenK.AllK
import Wide.FinOn
import Lean
import PyProof.EqAt
import PyProof.EqKinds
import PyProof.TupleCall
import PyProof.ExcBaseAll.ValueError
import PyProof.ExcAttrAll.ValueError
import KE.KTryMore
import OpenK.KOwn
import PyProof.InstSpecial
import KE.KRevIter
import KE.KDictList
import PyProof.SetScanFacts
import PyProof.Rows.SetFrom
import KE.KRevIter
import PyProof.Rows.SortShell
import PyProof.CollectWalk
import PyProof.Rows.SortWalk
import PySem.Challenge.RW_wontbook_k10_places_and_shown
set_option linter.all false
set_option bootstrap.genMatcherCode false
set_option linter.all false
noncomputable section
set_option genSizeOf false
set_option genInjectivity false
namespace Z
noncomputable abbrev S := List Nat
inductive D where
  | non | bl (b : Bool) | int (i : Int) | str (s : S) | tup (xs : List D) | rol (xs : List D) | ref (n : Nat)
noncomputable abbrev KK := Sum Int S
inductive AO where
  | lst (xs : List D) | dct (kvs : List (KK × D)) | obj (c : S) (fs : List (S × D)) | exc (c : S)
noncomputable abbrev AH := List AO
noncomputable abbrev Lo := List (Option D)
noncomputable def lim : Nat := 16777216
noncomputable def tx (s : String) : S := s.toList.map Char.toNat
noncomputable def eqZ (f : D → D → Option Bool) : List D → List D → Option Bool
  | [], [] => some true
  | [], _ :: _ => some false
  | _ :: _, [] => some false
  | x :: xs, y :: ys => match f x y, eqZ f xs ys with
    | some a, some b => some (a && b)
    | _, _ => none
noncomputable def eqN : Nat → D → D → Option Bool
  | _, .non, .non => some true
  | _, .non, .bl _ => some false
  | _, .non, .int _ => some false
  | _, .non, .str _ => some false
  | _, .bl _, .non => some false
  | _, .bl a, .bl b => some (a == b)
  | _, .bl _, .str _ => some false
  | _, .int _, .non => some false
  | _, .int a, .int b => some (a == b)
  | _, .int _, .str _ => some false
  | _, .str _, .non => some false
  | _, .str _, .bl _ => some false
  | _, .str _, .int _ => some false
  | _, .str a, .str b => some (a == b)
  | _ + 1, .non, .tup _ => some false
  | _ + 1, .bl _, .tup _ => some false
  | _ + 1, .int _, .tup _ => some false
  | _ + 1, .str _, .tup _ => some false
  | _ + 1, .tup _, .non => some false
  | _ + 1, .tup _, .bl _ => some false
  | _ + 1, .tup _, .int _ => some false
  | _ + 1, .tup _, .str _ => some false
  | n + 1, .tup xs, .tup ys => eqZ (eqN n) xs ys
  | _, _, _ => none
noncomputable def eqD (x y : D) : Option Bool := eqN 150 x y
noncomputable def seqOf (h : AH) : D → Option (List D)
  | .tup xs => some xs
  | .rol xs => some xs
  | .ref n => match h[n]? with
    | some (.lst xs) => some xs
    | _ => none
  | _ => none
noncomputable def eqLs (xs ys : List D) : Option Bool := if xs.length = ys.length then eqZ (eqN 149) xs ys else some false
noncomputable def eqH (h : AH) : D → D → Option Bool
  | .ref a, .ref b => match h[a]?, h[b]? with
    | some (.lst xs), some (.lst ys) => eqLs xs ys
    | _, _ => none
  | x, y => eqD x y
noncomputable def inDs (x : D) : List D → Option Bool
  | [] => some false
  | y :: ys => match eqN 149 y x, inDs x ys with
    | some a, some b => some (a || b)
    | _, _ => none
noncomputable def truthy (h : AH) : D → Option Bool
  | .non => some false
  | .bl b => some b
  | .int i => some (i != 0)
  | .str s => some (!s.isEmpty)
  | .tup xs => some (!xs.isEmpty)
  | .rol xs => some (!xs.isEmpty)
  | .ref n => match h[n]? with
    | some (.lst xs) => some (!xs.isEmpty)
    | some (.dct kvs) => some (!kvs.isEmpty)
    | _ => none
noncomputable def ixN (n : Nat) (i : Int) : Option Nat := if 0 ≤ i then (if i < n then some i.toNat else none) else if -(n : Int) ≤ i then some (i + n).toNat else none
noncomputable def atI {α : Type} (xs : List α) (i : Int) : Option α := (ixN xs.length i).bind fun j => xs[j]?
noncomputable def sIx (n d : Nat) : Option Int → Nat
  | none => d
  | some v => (if v < 0 then max (v + n) 0 else min v n).toNat
noncomputable def cut {α : Type} (xs : List α) (lo hi : Option Int) : List α := (xs.drop (sIx xs.length 0 lo)).take (sIx xs.length xs.length hi - sIx xs.length 0 lo)
noncomputable def kkOf : D → Option KK
  | .int i => some (.inl i)
  | .str s => some (.inr s)
  | _ => none
noncomputable def kkD : KK → D
  | .inl i => .int i
  | .inr s => .str s
noncomputable def dGet (kvs : List (KK × D)) (k : KK) : Option D := (kvs.find? fun kv => decide (kv.1 = k)).map (·.2)
noncomputable def dPut (kvs : List (KK × D)) (k : KK) (v : D) : List (KK × D) :=
  if kvs.any (fun kv => decide (kv.1 = k)) then kvs.map (fun kv => if kv.1 = k then (kv.1, v) else kv) else kvs ++ [(k, v)]
noncomputable def strsOf : List D → Option (List S)
  | [] => some []
  | .str s :: r => (strsOf r).map (s :: ·)
  | _ => none
noncomputable def intsOf : List D → Option (List Int)
  | [] => some []
  | .int s :: r => (intsOf r).map (s :: ·)
  | _ => none
noncomputable def sLt : S → S → Bool
  | [], [] => false
  | [], _ :: _ => true
  | _ :: _, [] => false
  | x :: xs, y :: ys => if x = y then sLt xs ys else decide (x < y)
noncomputable def insS (x : S) : List S → List S
  | [] => [x]
  | y :: ys => if sLt x y then x :: y :: ys else y :: insS x ys
noncomputable def sortS (l : List S) : List S := l.foldl (fun acc x => insS x acc) []
noncomputable def insI (x : Int) : List Int → List Int
  | [] => [x]
  | y :: ys => if x < y then x :: y :: ys else y :: insI x ys
noncomputable def sortI (l : List Int) : List Int := l.foldl (fun acc x => insI x acc) []
noncomputable def splitOn (c : Nat) : S → List S
  | [] => [[]]
  | x :: xs => if x = c then [] :: splitOn c xs else match splitOn c xs with
    | [] => [[x]]
    | w :: ws => (x :: w) :: ws
noncomputable def joinS (sep : S) : List S → S
  | [] => []
  | [x] => x
  | x :: y :: r => x ++ sep ++ joinS sep (y :: r)
noncomputable def lstrip (c : Nat) : S → S
  | [] => []
  | x :: xs => if x = c then lstrip c xs else x :: xs
noncomputable def strip (c : Nat) (s : S) : S := (lstrip c (lstrip c s).reverse).reverse
inductive KN | int | bool | str | list | tuple | cls (c : Nat)
  deriving DecidableEq
inductive Prim
  | add | sub | mul | fdiv | mod | pow | shl | shr | band | bor | bxor | neg | inv
  | eq | ne | lt | le | gt | ge | isN | notN | in_ | notin
  | mktup | mklst | mkdct
  | idx | sl00 | slL | slH | slLH
  | len | isi (k : KN) | max2 | min2
  | list_ | tuple_ | sorted_ | str_ | int_ | bool_
  | append | extend | pop | popat | insert | index | count | join | split | starts2 | starts3 | strip | find | bitlen | get1 | get2
  | setx
  | tget (t : List (S × D)) | tin (t : List (S × D))
  | fcat | not1 | sum1 | min1 | max1 | minD | sortset | lrng | lrev | sortedP
  | attr (cs : List S) (f : S) | setattr (cs : List S) (f : S)
  | isC (yes no : List S) | indexL | all1 | isE (yes no : List S)
noncomputable def okR (i : Int) : Bool := @decide (-4611686018427387904 ≤ i ∧ i < 4611686018427387904) (Classical.propDecidable _)
theorem okR_iff {i : Int} : okR i = true ↔ (-4611686018427387904 ≤ i ∧ i < 4611686018427387904) := @decide_eq_true_iff _ (Classical.propDecidable _)
noncomputable def ok3 (a b c : Int) : Bool := @decide (-2147483648 ≤ a ∧ a < 2147483648 ∧ -2147483648 ≤ b ∧ b < 2147483648 ∧ 0 < c ∧ c < 1073741824) (Classical.propDecidable _)
noncomputable def smallI (i : Int) : Bool := @decide (-18446744073709551616 < i ∧ i < 18446744073709551616) (Classical.propDecidable _)
theorem smallI_iff {i : Int} : smallI i = true ↔ (-18446744073709551616 < i ∧ i < 18446744073709551616) := @decide_eq_true_iff _ (Classical.propDecidable _)
noncomputable def bigI (i : Int) : Bool := @decide (-2037035976334486086268445688409378161051468393665936250636140449354381299763336706183397376 < i ∧ i < 2037035976334486086268445688409378161051468393665936250636140449354381299763336706183397376) (Classical.propDecidable _)
theorem bigI_iff {i : Int} : bigI i = true ↔ (-2037035976334486086268445688409378161051468393665936250636140449354381299763336706183397376 < i ∧ i < 2037035976334486086268445688409378161051468393665936250636140449354381299763336706183397376) := @decide_eq_true_iff _ (Classical.propDecidable _)
noncomputable def bNot (x : Int) : Int := -x - 1
noncomputable def bAnd : Int → Int → Int
  | .ofNat a, .ofNat b => ((a &&& b : Nat) : Int)
  | .ofNat a, .negSucc b => ((a - (a &&& b) : Nat) : Int)
  | .negSucc a, .ofNat b => ((b - (b &&& a) : Nat) : Int)
  | .negSucc a, .negSucc b => .negSucc (a ||| b)
noncomputable def bOr (x y : Int) : Int := bNot (bAnd (bNot x) (bNot y))
noncomputable def bLen (i : Int) : Nat := if i = 0 then 0 else i.natAbs.log2 + 1
noncomputable def pairsOf : List D → Option (List (Int × Int))
  | [] => some []
  | .tup [.int a, .int b] :: r => (pairsOf r).map ((a, b) :: ·)
  | _ => none
noncomputable def pLt (x y : Int × Int) : Bool := decide (x.1 < y.1 ∨ (x.1 = y.1 ∧ x.2 < y.2))
noncomputable def insP (x : Int × Int) : List (Int × Int) → List (Int × Int)
  | [] => [x]
  | y :: ys => if pLt x y then x :: y :: ys else y :: insP x ys
noncomputable def sortP (l : List (Int × Int)) : List (Int × Int) := l.foldl (fun acc x => insP x acc) []
noncomputable def minL : List Int → Option Int
  | [] => none
  | x :: r => some (r.foldl (fun a b => if b < a then b else a) x)
noncomputable def maxL : List Int → Option Int
  | [] => none
  | x :: r => some (r.foldl (fun a b => if b > a then b else a) x)
noncomputable def onceI (l : List Int) : List Int := l.foldl (fun acc x => if acc.contains x then acc else acc ++ [x]) []
noncomputable def fcatS : List D → Option S
  | [] => some []
  | .str s :: r => (fcatS r).map (s ++ ·)
  | _ => none
noncomputable def newL (xs : List D) (h : AH) : Option (D × AH) := if xs.length ≤ lim then some (.ref h.length, h ++ [.lst xs]) else none
noncomputable def setL (n : Nat) (xs : List D) (v : D) (h : AH) : Option (D × AH) := if xs.length ≤ lim then some (v, h.set n (.lst xs)) else none
noncomputable def isiB (h : AH) (sub : Nat → Nat → Bool) : KN → D → Option Bool
  | .int, .int _ => some true
  | .int, .bl _ => some true
  | .bool, .bl _ => some true
  | .str, .str _ => some true
  | .tuple, .tup _ => some true
  | .list, .rol _ => some true
  | .list, .ref n => match h[n]? with
    | some (.lst _) => some true
    | some (.dct _) => some false
    | _ => none
  | _, .ref n => match h[n]? with
    | some (.lst _) => some false
    | some (.dct _) => some false
    | _ => none
  | _, _ => some false
noncomputable def pAdd : List D → AH → Option (D × AH)
  | [.int i, .int j], h => some (.int (i + j), h)
  | [.str i, .str j], h => if i.length + j.length ≤ lim then some (.str (i ++ j), h) else none
  | [.tup i, .tup j], h => if i.isEmpty then some (.tup j, h) else if i.length + j.length ≤ lim then some (.tup (i ++ j), h) else none
  | [.ref a, .ref b], h => match h[a]?, h[b]? with
    | some (.lst xs), some (.lst ys) => newL (xs ++ ys) h
    | _, _ => none
  | [.ref a, .rol ys], h => match h[a]? with
    | some (.lst xs) => newL (xs ++ ys) h
    | _ => none
  | _, _ => none
noncomputable def pInt2 (f : Int → Int → Int) : List D → AH → Option (D × AH)
  | [.int i, .int j], h => some (.int (f i j), h)
  | _, _ => none
noncomputable def pMul : List D → AH → Option (D × AH)
  | [.int i, .int j], h => if smallI i || smallI j || (bigI i && bigI j) then some (.int (i * j), h) else none
  | [.ref a, .int k], h => match h[a]? with
    | some (.lst xs) => if okR k then newL (List.replicate k.toNat xs).flatten h else none
    | _ => none
  | _, _ => none
noncomputable def pFdiv : List D → AH → Option (D × AH)
  | [.int i, .int j], h => if 0 < j ∧ bigI j = true then some (.int (i / j), h) else none
  | _, _ => none
noncomputable def pMod : List D → AH → Option (D × AH)
  | [.int i, .int j], h => if 0 < j then some (.int (i % j), h) else none
  | _, _ => none
noncomputable def pPow : List D → AH → Option (D × AH)
  | [.int i, .int j], h => if 0 ≤ j ∧ j ≤ 1000000 ∧ i.natAbs < 18446744073709551616 then some (.int (i ^ j.toNat), h) else none
  | _, _ => none
noncomputable def pNeg : List D → AH → Option (D × AH)
  | [.int i], h => some (.int (-i), h)
  | _, _ => none
noncomputable def pEq (n : Bool) : List D → AH → Option (D × AH)
  | [x, y], h => (eqH h x y).map fun b => (.bl (b != n), h)
  | _, _ => none
noncomputable def pCmp (f : Int → Int → Bool) : List D → AH → Option (D × AH)
  | [.int i, .int j], h => some (.bl (f i j), h)
  | _, _ => none
noncomputable def pIsN (n : Bool) : List D → AH → Option (D × AH)
  | [.non], h => some (.bl (!n), h)
  | [_], h => some (.bl n, h)
  | _, _ => none
noncomputable def pIn (n : Bool) : List D → AH → Option (D × AH)
  | [x, .tup ys], h => (inDs x ys).map fun b => (.bl (b != n), h)
  | [x, .rol ys], h => (inDs x ys).map fun b => (.bl (b != n), h)
  | [x, .ref a], h => match h[a]? with
    | some (.lst ys) => (inDs x ys).map fun b => (.bl (b != n), h)
    | some (.dct kvs) => (kkOf x).map fun k => (.bl ((dGet kvs k).isSome != n), h)
    | _ => none
  | _, _ => none
noncomputable def pMkt (xs : List D) (h : AH) : Option (D × AH) := if xs.length ≤ lim then some (.tup xs, h) else none
noncomputable def pMkd : List D → AH → Option (D × AH)
  | [], h => some (.ref h.length, h ++ [.dct []])
  | _, _ => none
noncomputable def pIdx : List D → AH → Option (D × AH)
  | [.str s, .int i], h => (atI s i).map fun c => (.str [c], h)
  | [.tup xs, .int i], h => (atI xs i).map fun v => (v, h)
  | [.rol xs, .int i], h => (atI xs i).map fun v => (v, h)
  | [.ref n, k], h => match h[n]? with
    | some (.dct kvs) => (kkOf k).bind fun q => (dGet kvs q).map fun v => (v, h)
    | some (.lst xs) => match k with
      | .int i => (atI xs i).map fun v => (v, h)
      | _ => none
    | _ => none
  | _, _ => none
noncomputable def pSlice (x : D) (lo hi : Option Int) (h : AH) : Option (D × AH) := match x with
  | .str s => some (.str (cut s lo hi), h)
  | .tup xs => if sIx xs.length 0 lo = 0 ∧ sIx xs.length xs.length hi = xs.length then none else some (.tup (cut xs lo hi), h)
  | .rol xs => newL (cut xs lo hi) h
  | .ref n => match h[n]? with
    | some (.lst xs) => newL (cut xs lo hi) h
    | _ => none
  | _ => none
noncomputable def pSl00 : List D → AH → Option (D × AH)
  | [x], h => pSlice x none none h
  | _, _ => none
noncomputable def pSlL : List D → AH → Option (D × AH)
  | [x, .int i], h => pSlice x (some i) none h
  | _, _ => none
noncomputable def pSlH : List D → AH → Option (D × AH)
  | [x, .int i], h => pSlice x none (some i) h
  | _, _ => none
noncomputable def pSlLH : List D → AH → Option (D × AH)
  | [x, .int i, .int j], h => pSlice x (some i) (some j) h
  | _, _ => none
noncomputable def pLen : List D → AH → Option (D × AH)
  | [.str s], h => some (.int s.length, h)
  | [.tup s], h => some (.int s.length, h)
  | [.rol s], h => some (.int s.length, h)
  | [.ref n], h => match h[n]? with
    | some (.lst xs) => some (.int xs.length, h)
    | some (.dct xs) => some (.int xs.length, h)
    | _ => none
  | _, _ => none
noncomputable def pIsi (sub : Nat → Nat → Bool) (k : KN) : List D → AH → Option (D × AH)
  | [x], h => (isiB h sub k x).map fun b => (.bl b, h)
  | _, _ => none
noncomputable def pList : List D → AH → Option (D × AH)
  | [x], h => (seqOf h x).bind fun xs => newL xs h
  | _, _ => none
noncomputable def pTuple : List D → AH → Option (D × AH)
  | [x], h => (seqOf h x).map fun xs => (.tup xs, h)
  | _, _ => none
noncomputable def pSorted : List D → AH → Option (D × AH)
  | [.ref n], h => match h[n]? with
    | some (.lst xs) => (strsOf xs).bind fun ss => if ss.length < 64 then newL ((sortS ss).map .str) h else none
    | some (.dct kvs) => (strsOf (kvs.map fun kv => kkD kv.1)).bind fun ss => if ss.length < 64 then newL ((sortS ss).map .str) h else none
    | _ => none
  | _, _ => none
noncomputable def pSortedP : List D → AH → Option (D × AH)
  | [.ref n], h => match h[n]? with
    | some (.lst xs) => (pairsOf xs).bind fun ps => if ps.length < 65 then newL ((sortP ps).map fun p => .tup [.int p.1, .int p.2]) h else none
    | _ => none
  | _, _ => none
noncomputable def pNot1 : List D → AH → Option (D × AH)
  | [.bl b], h => some (.bl (!b), h)
  | _, _ => none
noncomputable def pShl : List D → AH → Option (D × AH)
  | [.int i, .int j], h => if 0 ≤ j ∧ j ≤ 1000000 ∧ i.natAbs < 18446744073709551616 then some (.int (i * 2 ^ j.toNat), h) else none
  | _, _ => none
noncomputable def pShr : List D → AH → Option (D × AH)
  | [.int i, .int j], h => if 0 ≤ j then some (.int (i / 2 ^ j.toNat), h) else none
  | _, _ => none
noncomputable def pInv : List D → AH → Option (D × AH)
  | [.int i], h => some (.int (bNot i), h)
  | _, _ => none
noncomputable def pBitlen : List D → AH → Option (D × AH)
  | [.int i], h => some (.int (bLen i), h)
  | _, _ => none
noncomputable def pSum1 : List D → AH → Option (D × AH)
  | [.ref n], h => match h[n]? with
    | some (.lst xs) => (intsOf xs).map fun is => (.int is.sum, h)
    | _ => none
  | _, _ => none
noncomputable def pMin1 (f : List Int → Option Int) : List D → AH → Option (D × AH)
  | [.ref n], h => match h[n]? with
    | some (.lst xs) => (intsOf xs).bind fun is => (f is).map fun i => (.int i, h)
    | _ => none
  | _, _ => none
noncomputable def pMinD : List D → AH → Option (D × AH)
  | [.ref n, d], h => match h[n]? with
    | some (.lst xs) => (intsOf xs).map fun is => (match minL is with | some i => .int i | none => d, h)
    | _ => none
  | _, _ => none
noncomputable def pSortset : List D → AH → Option (D × AH)
  | [.ref n], h => match h[n]? with
    | some (.lst xs) => (intsOf xs).bind fun is => if is.length < 200 then newL ((sortI (onceI is)).map .int) h else none
    | _ => none
  | _, _ => none
noncomputable def pLrng : List D → AH → Option (D × AH)
  | [.int n], h => if okR n then newL ((List.range n.toNat).map fun (k : Nat) => .int k) h else none
  | _, _ => none
noncomputable def pLrev : List D → AH → Option (D × AH)
  | [.ref n], h => match h[n]? with
    | some (.lst xs) => newL xs.reverse h
    | _ => none
  | _, _ => none
noncomputable def idxL (x : S) : List S → Option Nat
  | [] => none
  | y :: r => if y = x then some 0 else (idxL x r).map (· + 1)
noncomputable def pIndex : List D → AH → Option (D × AH)
  | [.tup xs, .str x], h => (strsOf xs).bind fun ss => (idxL x ss).map fun i => (.int i, h)
  | _, _ => none
noncomputable def pApp : List D → AH → Option (D × AH)
  | [.ref n, v], h => match h[n]? with
    | some (.lst xs) => setL n (xs ++ [v]) .non h
    | _ => none
  | _, _ => none
noncomputable def pExt : List D → AH → Option (D × AH)
  | [_, .rol _], _ => none
  | [.ref n, x], h => match h[n]?, seqOf h x with
    | some (.lst xs), some ys => setL n (xs ++ ys) .non h
    | _, _ => none
  | _, _ => none
noncomputable def pPop : List D → AH → Option (D × AH)
  | [.ref n], h => match h[n]? with
    | some (.lst xs) => match xs.getLast? with
      | some v => some (v, h.set n (.lst xs.dropLast))
      | none => none
    | _ => none
  | _, _ => none
noncomputable def pPopat : List D → AH → Option (D × AH)
  | [.ref n, .int i], h => match h[n]? with
    | some (.lst xs) => match ixN xs.length i with
      | some j => match xs[j]? with
        | some v => some (v, h.set n (.lst (xs.eraseIdx j)))
        | none => none
      | none => none
    | _ => none
  | _, _ => none
noncomputable def pJoin : List D → AH → Option (D × AH)
  | [.str sep, .ref n], h => match h[n]? with
    | some (.lst xs) => (strsOf xs).bind fun ss => if (ss.map fun s => s.length).sum + ss.length * sep.length ≤ lim then some (.str (joinS sep ss), h) else none
    | _ => none
  | _, _ => none
noncomputable def pSplit : List D → AH → Option (D × AH)
  | [.str s, .str [c]], h => newL ((splitOn c s).map .str) h
  | _, _ => none
noncomputable def pStarts : List D → AH → Option (D × AH)
  | [.str s, .str p], h => some (.bl (p.isPrefixOf s), h)
  | [.str s, .str p, .int i], h => if 0 ≤ i ∧ i ≤ s.length then some (.bl (p.isPrefixOf (s.drop i.toNat)), h) else none
  | _, _ => none
noncomputable def pStrip : List D → AH → Option (D × AH)
  | [.str s, .str [c]], h => some (.str (Z.strip c s), h)
  | _, _ => none
noncomputable def pSetx : List D → AH → Option (D × AH)
  | [.ref n, k, v], h => match h[n]? with
    | some (.dct kvs) => (kkOf k).bind fun q => if kvs.length < lim then some (.non, h.set n (.dct (dPut kvs q v))) else none
    | some (.lst xs) => match k with
      | .int i => match ixN xs.length i with
        | some j => some (.non, h.set n (.lst (xs.set j v)))
        | none => none
      | _ => none
    | _ => none
  | _, _ => none
noncomputable def pTget (t : List (S × D)) : List D → AH → Option (D × AH)
  | [.str k], h => (t.lookup k).map fun v => (v, h)
  | _, _ => none
noncomputable def pTin (t : List (S × D)) : List D → AH → Option (D × AH)
  | [.str k], h => some (.bl (t.lookup k).isSome, h)
  | _, _ => none
noncomputable def pFcat (xs : List D) (h : AH) : Option (D × AH) := (fcatS xs).bind fun s => if s.length ≤ lim then some (.str s, h) else none
noncomputable def pAttr (cs : List S) (f : S) : List D → AH → Option (D × AH)
  | [.ref n], h => match h[n]? with
    | some (.obj c fs) => if c ∈ cs then (fs.lookup f).map fun v => (v, h) else none
    | _ => none
  | _, _ => none
noncomputable def putA (f : S) (v : D) : List (S × D) → List (S × D)
  | [] => [(f, v)]
  | (g, x) :: r => if g = f then (g, v) :: r else (g, x) :: putA f v r
noncomputable def pSetA (cs : List S) (f : S) : List D → AH → Option (D × AH)
  | [v, .ref n], h => match h[n]? with
    | some (.obj c fs) => if c ∈ cs ∧ fs.length < 100 then some (.non, h.set n (.obj c (putA f v fs))) else none
    | _ => none
  | _, _ => none
noncomputable def blsOf : List D → Option (List Bool)
  | [] => some []
  | .bl s :: r => (blsOf r).map (s :: ·)
  | _ => none
noncomputable def pIsC (yes no : List S) : List D → AH → Option (D × AH)
  | [.ref n], h => match h[n]? with
    | some (.obj c _) => if c ∈ yes then some (.bl true, h) else if c ∈ no then some (.bl false, h) else none
    | _ => none
  | _, _ => none
noncomputable def pIsE (yes no : List S) : List D → AH → Option (D × AH)
  | [.ref n], h => match h[n]? with
    | some (.exc c) => if c ∈ yes then some (.bl true, h) else if c ∈ no then some (.bl false, h) else none
    | _ => none
  | _, _ => none
noncomputable def pIndexL : List D → AH → Option (D × AH)
  | [.ref n, .str x], h => match h[n]? with
    | some (.lst xs) => (strsOf xs).bind fun ss => (idxL x ss).map fun i => (.int i, h)
    | _ => none
  | _, _ => none
noncomputable def pCount : List D → AH → Option (D × AH)
  | [.ref n, .bl b], h => match h[n]? with
    | some (.lst xs) => (blsOf xs).map fun bs => (.int (bs.count b : Nat), h)
    | _ => none
  | _, _ => none
noncomputable def pAll : List D → AH → Option (D × AH)
  | [.ref n], h => match h[n]? with
    | some (.lst xs) => (blsOf xs).map fun bs => (.bl (bs.all id), h)
    | _ => none
  | _, _ => none
noncomputable def pInt1 : List D → AH → Option (D × AH)
  | [.bl b], h => some (.int (if b then 1 else 0), h)
  | _, _ => none
noncomputable def prim (sub : Nat → Nat → Bool) : Prim → List D → AH → Option (D × AH)
  | .add => pAdd
  | .sub => pInt2 (· - ·)
  | .mul => pMul
  | .fdiv => pFdiv
  | .mod => pMod
  | .pow => pPow
  | .neg => pNeg
  | .shl => pShl
  | .shr => pShr
  | .band => pInt2 bAnd
  | .bor => pInt2 bOr
  | .inv => pInv
  | .bitlen => pBitlen
  | .not1 => pNot1
  | .sum1 => pSum1
  | .min1 => pMin1 minL
  | .max1 => pMin1 maxL
  | .minD => pMinD
  | .sortset => pSortset
  | .sortedP => pSortedP
  | .lrng => pLrng
  | .lrev => pLrev
  | .index => pIndex
  | .eq => pEq false
  | .ne => pEq true
  | .lt => pCmp fun i j => decide (i < j)
  | .le => pCmp fun i j => decide (i ≤ j)
  | .gt => pCmp fun i j => decide (j < i)
  | .ge => pCmp fun i j => decide (j ≤ i)
  | .isN => pIsN false
  | .notN => pIsN true
  | .in_ => pIn false
  | .notin => pIn true
  | .mktup => pMkt
  | .mklst => newL
  | .mkdct => pMkd
  | .idx => pIdx
  | .sl00 => pSl00
  | .slL => pSlL
  | .slH => pSlH
  | .slLH => pSlLH
  | .len => pLen
  | .isi k => pIsi sub k
  | .max2 => pInt2 fun i j => if j > i then j else i
  | .min2 => pInt2 fun i j => if j < i then j else i
  | .list_ => pList
  | .tuple_ => pTuple
  | .sorted_ => pSorted
  | .append => pApp
  | .extend => pExt
  | .pop => pPop
  | .popat => pPopat
  | .join => pJoin
  | .split => pSplit
  | .starts2 => pStarts
  | .starts3 => pStarts
  | .strip => pStrip
  | .setx => pSetx
  | .tget t => pTget t
  | .tin t => pTin t
  | .fcat => pFcat
  | .attr cs f => pAttr cs f
  | .setattr cs f => pSetA cs f
  | .isC ys ns => pIsC ys ns
  | .isE ys ns => pIsE ys ns
  | .indexL => pIndexL
  | .count => pCount
  | .all1 => pAll
  | .int_ => pInt1
  | _ => fun _ _ => none
inductive IK | val | rng | rev | enum | zip
  deriving DecidableEq
inductive MK | list | str | dict | int | tuple
  deriving DecidableEq
noncomputable def tyB (h : AH) : MK → D → Bool
  | .list, .rol _ => true
  | .list, .ref n => match h[n]? with
    | some (.lst _) => true
    | _ => false
  | .dict, .ref n => match h[n]? with
    | some (.dct _) => true
    | _ => false
  | .str, .str _ => true
  | .int, .int _ => true
  | .tuple, .tup _ => true
  | _, _ => false
mutual
inductive Ex
  | var (i : Nat) | lit (d : D) | prim (p : Prim) (es : Exs)
  | andV (a b : Ex) | orV (a b : Ex) | tst (t : Tx) | ite (c : Tx) (a b : Ex)
  | chain (p q : Prim) (a b c : Ex) | slc (a b c : Ex)
  | mth (k : MK) (p : Prim) (o : Ex) (es : Exs)
  | call (f : Nat) (es : Exs) (ds : List D)
  | comp (k : IK) (src : Exs) (nt : Nat) (cond : Txs) (elt : Ex)
  | make (c : S) (f : Nat) (es : Exs) | meth (m : S) (tab : List (S × Nat)) (o : Ex) (es : Exs) | srt (e : Ex)
  | callX (f : Nat) (es : Exs) | sset (e : Ex)
inductive Exs
  | nil | cons (e : Ex) (es : Exs)
inductive Tx
  | tru (e : Ex) | and (a b : Tx) | or (a b : Tx) | not (a : Tx)
inductive Txs
  | none | one (t : Tx)
end
mutual
inductive Sm
  | expr (e : Ex) | asg (i : Nat) (e : Ex) | unp (is : List Nat) (e : Ex) | setx (o i v : Ex)
  | aug (i : Nat) (p : Prim) (e : Ex) | ret (e : Ex) | retN | ife (c : Tx) (a b : Sms)
  | whil (c : Tx) (b : Sms) | forr (tg : List Nat) (k : IK) (src : Exs) (b : Sms)
  | brk | cnt | pass | rais (c : Nat) (es : Exs) | raisC (c : S) | tryA (i f : Nat) (es : Exs) (c : S) (j : Nat) (hs : Sms)
  | tryM (t : Tx) (i : Nat) (m1 : S) (tab1 : List (S × Nat)) (o1 : Ex) (es1 : Exs) (m2 : S) (tab2 : List (S × Nat)) (o2 : Ex) (es2 : Exs) (c : S) (j : Nat) (hs : Sms)
inductive Sms
  | nil | cons (s : Sm) (ss : Sms)
end
noncomputable abbrev PV := D → AH → Prop
noncomputable abbrev PX := D → AH → Prop
noncomputable abbrev Gam := Nat → List D → AH → PV → PX → Prop
noncomputable def isPr : D → Bool
  | .tup [.int _, .int _] => true
  | _ => false
noncomputable def EF (_ : PX) : PX := fun _ _ => False
noncomputable abbrev It := Nat → AH → Option (Option D)
noncomputable def itList (n : Nat) : It := fun i h => match h[n]? with
  | some (.lst xs) => some xs[i]?
  | _ => none
noncomputable def itXs (xs : List D) : It := fun i _ => some xs[i]?
noncomputable def itRng (lo : Int) (n : Nat) : It := fun i _ => some (if i < n then some (.int (lo + i)) else none)
noncomputable def itEnumX (xs : List D) : It := fun i _ => some (xs[i]?.map fun x => .tup [.int i, x])
noncomputable def itRev (n len : Nat) : It := fun i h => match h[n]? with
  | some (.lst xs) => if xs.length = len then some (if i < len then xs[len - 1 - i]? else none) else none
  | _ => none
noncomputable def itZip (xs ys : List D) : It := fun i _ => match xs[i]?, ys[i]? with
  | some x, some y => some (some (.tup [x, y]))
  | _, _ => some none
noncomputable def itZipL (xs : List D) (n : Nat) : It := fun i h => match h[n]? with
  | some (.lst ys) => itZip xs ys i h
  | _ => none
noncomputable def itRng3 (lo st : Int) (n : Nat) : It := fun i _ => some (if i < n then some (.int (lo + st * i)) else none)
noncomputable def ioV : List D → AH → Option It
  | [.ref n], h => match h[n]? with
    | some (.lst _) => some (itList n)
    | _ => none
  | [.tup xs], _ => some (itXs xs)
  | [.rol xs], _ => some (itXs xs)
  | _, _ => none
noncomputable def ioR : List D → AH → Option It
  | [.int n], _ => if okR n then some (itRng 0 n.toNat) else none
  | [.int a, .int b], _ => if okR a && okR b then some (itRng a (b - a).toNat) else none
  | [.int a, .int b, .int c], _ => if ok3 a b c then some (itRng3 a c (if a < b then ((b - a - 1) / c + 1).toNat else 0)) else none
  | _, _ => none
noncomputable def ioE : List D → AH → Option It
  | [.tup xs], _ => some (itEnumX xs)
  | _, _ => none
noncomputable def ioZ : List D → AH → Option It
  | [.tup xs, .tup ys], _ => some (itZip xs ys)
  | [.tup xs, .ref n], h => match h[n]? with
    | some (.lst _) => some (itZipL xs n)
    | _ => none
  | _, _ => none
noncomputable def ioB : List D → AH → Option It
  | [.ref n], h => match h[n]? with
    | some (.lst xs) => some (itRev n xs.length)
    | _ => none
  | _, _ => none
noncomputable def iterOf : IK → List D → AH → Option It
  | .val => ioV
  | .rng => ioR
  | .enum => ioE
  | .zip => ioZ
  | .rev => ioB
structure En where
  nx : Lo → AH → Prop
  rt : PV
  bk : Lo → AH → Prop := fun _ _ => False
  ct : Lo → AH → Prop := fun _ _ => False
noncomputable def bindT : List Nat → D → Lo → Option Lo
  | [i], v, σ => some (σ.set i (some v))
  | is, .tup vs, σ => if is.length = vs.length then some ((is.zip vs).foldl (fun σ p => σ.set p.1 (some p.2)) σ) else none
  | _, _, _ => none
noncomputable def moreT : Nat → D → Lo → Option Lo
  | 1, v, σ => some (σ ++ [some v])
  | n, .tup vs, σ => if vs.length = n then some (σ ++ vs.map some) else none
  | _, _, _ => none
section
variable (sub : Nat → Nat → Bool) (Γ : Gam) (E : PX)
mutual
noncomputable def wpE : Ex → Lo → AH → PV → Prop
  | .var i, σ, h, Q => match σ[i]? with
    | some (some v) => Q v h
    | _ => False
  | .lit d, _, h, Q => Q d h
  | .prim p es, σ, h, Q => wpEs es σ h fun vs h1 => match prim sub p vs h1 with
    | some (v, h2) => Q v h2
    | none => False
  | .andV a b, σ, h, Q => wpE a σ h fun x h1 => match x with
    | .bl true => wpE b σ h1 Q
    | .bl false => Q (.bl false) h1
    | _ => False
  | .orV a b, σ, h, Q => wpE a σ h fun x h1 => match x with
    | .bl true => Q (.bl true) h1
    | .bl false => wpE b σ h1 Q
    | _ => False
  | .tst t, σ, h, Q => wpT t σ h fun c h1 => Q (.bl c) h1
  | .ite c a b, σ, h, Q => wpT c σ h fun k h1 => if k = true then wpE a σ h1 Q else wpE b σ h1 Q
  | .chain p q a b c, σ, h, Q => wpE a σ h fun x h1 => wpE b σ h1 fun y h2 => match prim sub p [x, y] h2 with
    | some (.bl true, h3) => wpE c σ h3 fun z h4 => match prim sub q [y, z] h4 with
      | some (v, h5) => Q v h5
      | none => False
    | some (.bl false, h3) => Q (.bl false) h3
    | _ => False
  | .slc a b c, σ, h, Q => wpE a σ h fun x h1 => wpE b σ h1 fun y h2 => match y with
    | .int i => wpE c σ h2 fun z h3 => match z with
      | .int j => match pSlice x (some i) (some j) h3 with
        | some (v, h4) => Q v h4
        | none => False
      | _ => False
    | _ => False
  | .mth k p o es, σ, h, Q => wpE o σ h fun x h1 => tyB h1 k x = true ∧ wpEs es σ h1 fun vs h2 => match prim sub p (x :: vs) h2 with
    | some (v, h3) => Q v h3
    | none => False
  | .call f es ds, σ, h, Q => wpEs es σ h fun vs h1 => Γ f (vs ++ ds) h1 Q (EF E)
  | .comp k src nt cond elt, σ, h, Q => wpEs src σ h fun vs h1 => match iterOf k vs h1 with
    | none => False
    | some J => ∃ W : Nat → Nat → AH → Prop, (∃ m, W 0 m (h1 ++ [.lst []])) ∧ ∀ i m h, W i m h → match J i h with
      | none => False
      | some none => Q (.ref h1.length) h
      | some (some v) => match moreT nt v σ with
        | none => False
        | some σ' => ∃ N : AH → Prop, (∀ h', N h' → ∃ m', m' < m ∧ W (i + 1) m' h') ∧ wpC cond σ' h fun c h2 => if c = true then wpE elt σ' h2 fun x h3 => match prim sub .append [.ref h1.length, x] h3 with
            | some (_, h4) => N h4
            | none => False
          else N h2
  | .make c f es, σ, h, Q => wpEs es σ h fun vs h1 => Γ f (.ref h1.length :: vs) (h1 ++ [.obj c []]) (fun v h2 => v = .non ∧ Q (.ref h1.length) h2) (EF E)
  | .meth m tab o es, σ, h, Q => wpE o σ h fun x h1 => match x with
    | .ref n => match h1[n]? with
      | some (.obj c fs) => fs.lookup m = none ∧ match tab.lookup c with
        | some f => wpEs es σ h1 fun vs h2 => Γ f (x :: vs) h2 Q (EF E)
        | none => False
      | _ => False
    | _ => False
  | .srt e, σ, h, Q => wpE e σ h fun x h1 => match x with
    | .ref n => match h1[n]? with
      | some (.lst zs) => zs.all isPr = true ∧ zs.length ≤ 64 ∧ ∀ ys : List D, ys.Perm zs → Q (.ref h1.length) (h1 ++ [.lst ys])
      | _ => False
    | _ => False
  | .callX f es, σ, h, Q => wpEs es σ h fun vs h1 => Γ f vs h1 Q E
  | .sset e, σ, h, Q => wpE e σ h fun x h1 => match x with
    | .ref n => match h1[n]? with
      | some (.lst zs) => match intsOf zs with
        | some is => is.length < 64 ∧ ∀ js : List Int, js.Nodup → (∀ j ∈ js, j ∈ is) → Q (.ref h1.length) (h1 ++ [.lst (js.map .int)])
        | none => False
      | _ => False
    | _ => False
noncomputable def wpEs : Exs → Lo → AH → (List D → AH → Prop) → Prop
  | .nil, _, h, Q => Q [] h
  | .cons e es, σ, h, Q => wpE e σ h fun v h1 => wpEs es σ h1 fun vs h2 => Q (v :: vs) h2
noncomputable def wpT : Tx → Lo → AH → (Bool → AH → Prop) → Prop
  | .tru e, σ, h, Q => wpE e σ h fun v h1 => match truthy h1 v with
    | some c => Q c h1
    | none => False
  | .and a b, σ, h, Q => wpT a σ h fun c h1 => if c = true then wpT b σ h1 Q else Q false h1
  | .or a b, σ, h, Q => wpT a σ h fun c h1 => if c = true then Q true h1 else wpT b σ h1 Q
  | .not a, σ, h, Q => wpT a σ h fun c h1 => Q (!c) h1
noncomputable def wpC : Txs → Lo → AH → (Bool → AH → Prop) → Prop
  | .none, _, h, Q => Q true h
  | .one t, σ, h, Q => wpT t σ h Q
end
noncomputable def wpM (m : S) (tab : List (S × Nat)) (o : Ex) (es : Exs) (σ : Lo) (h : AH) (Q : PV) (E' : PX) : Prop := wpE sub Γ E o σ h fun x h1 => match x with
  | .ref n => match h1[n]? with
    | some (.obj c fs) => fs.lookup m = none ∧ match tab.lookup c with
      | some f => wpEs sub Γ E es σ h1 fun vs h2 => Γ f (x :: vs) h2 Q E'
      | none => False
    | _ => False
  | _ => False
mutual
noncomputable def wpS : Sm → En → Lo → AH → Prop
  | .expr e, K, σ, h => wpE sub Γ E e σ h fun _ h1 => K.nx σ h1
  | .asg i e, K, σ, h => wpE sub Γ E e σ h fun v h1 => K.nx (σ.set i (some v)) h1
  | .unp is e, K, σ, h => wpE sub Γ E e σ h fun v h1 => match bindT is v σ with
    | some σ' => K.nx σ' h1
    | none => False
  | .setx o i v, K, σ, h => wpE sub Γ E v σ h fun x h1 => wpE sub Γ E o σ h1 fun y h2 => wpE sub Γ E i σ h2 fun z h3 => match prim sub .setx [y, z, x] h3 with
    | some (_, h4) => K.nx σ h4
    | none => False
  | .aug i p e, K, σ, h => match σ[i]? with
    | some (some x) => wpE sub Γ E e σ h fun y h1 => match prim sub p [x, y] h1 with
      | some (z, h2) => K.nx (σ.set i (some z)) h2
      | none => False
    | _ => False
  | .ret e, K, σ, h => wpE sub Γ E e σ h K.rt
  | .retN, K, _, h => K.rt .non h
  | .ife c a b, K, σ, h => wpT sub Γ E c σ h fun k h1 => if k = true then wpSs a K σ h1 else wpSs b K σ h1
  | .whil c b, K, σ, h => ∃ W : Nat → Lo → AH → Prop, (∃ m, W m σ h) ∧ ∀ m σ h, W m σ h →
      wpT sub Γ E c σ h fun k h1 => if k = true then ∃ N : Lo → AH → Prop, (∀ σ' h', N σ' h' → ∃ m', m' < m ∧ W m' σ' h') ∧ wpSs b { nx := N, rt := K.rt, bk := K.nx, ct := N } σ h1 else K.nx σ h1
  | .forr tg k src b, K, σ, h => wpEs sub Γ E src σ h fun vs h1 => match iterOf k vs h1 with
    | none => False
    | some J => ∃ W : Nat → Nat → Lo → AH → Prop, (∃ m, W 0 m σ h1) ∧ ∀ i m σ h, W i m σ h → match J i h with
      | none => False
      | some none => K.nx σ h
      | some (some v) => match bindT tg v σ with
        | none => False
        | some σ' => ∃ N : Lo → AH → Prop, (∀ σ' h', N σ' h' → ∃ m', m' < m ∧ W (i + 1) m' σ' h') ∧ wpSs b { nx := N, rt := K.rt, bk := K.nx, ct := N } σ' h
  | .brk, K, σ, h => K.bk σ h
  | .cnt, K, σ, h => K.ct σ h
  | .pass, K, σ, h => K.nx σ h
  | .rais _ _, _, _, _ => False
  | .raisC c, _, _, h => E (.str c) h
  | .tryA i f es c j hs, K, σ, h => wpEs sub Γ E es σ h fun vs h1 => Γ f vs h1 (fun v h2 => K.nx (σ.set i (some v)) h2) fun x h2 => x = .str c ∧ wpSs hs { nx := fun σ' h' => K.nx (σ'.set j none) h', rt := K.rt, bk := fun σ' h' => K.bk (σ'.set j none) h', ct := fun σ' h' => K.ct (σ'.set j none) h' } (σ.set j (some (.ref h2.length))) (h2 ++ [.exc c])
  | .tryM t i m1 tab1 o1 es1 m2 tab2 o2 es2 c j hs, K, σ, h => wpT sub Γ E t σ h fun k h1 =>
      (if k = true then wpM sub Γ E m1 tab1 o1 es1 σ h1 else wpM sub Γ E m2 tab2 o2 es2 σ h1) (fun v h2 => K.nx (σ.set i (some v)) h2)
        fun x h2 => x = .str c ∧ wpSs hs { nx := fun σ' h' => K.nx (σ'.set j none) h', rt := K.rt, bk := fun σ' h' => K.bk (σ'.set j none) h', ct := fun σ' h' => K.ct (σ'.set j none) h' } (σ.set j (some (.ref h2.length))) (h2 ++ [.exc c])
noncomputable def wpSs : Sms → En → Lo → AH → Prop
  | .nil, K, σ, h => K.nx σ h
  | .cons s ss, K, σ, h => wpS s { K with nx := fun σ' h' => wpSs ss K σ' h' } σ h
end
end
structure Def where
  np : Nat
  nl : Nat
  body : Sms
noncomputable def wpCall (sub : Nat → Nat → Bool) (P : List Def) : Nat → Gam
  | 0, _, _, _, _, _ => False
  | d + 1, f, vs, h, Q, E => match P[f]? with
    | some df => vs.length = df.np ∧ wpSs sub (wpCall sub P d) E df.body { nx := fun _ h => Q .non h, rt := Q } (vs.map some ++ List.replicate (df.nl - df.np) none) h
    | none => False
end Z
end
set_option linter.all false
namespace Z
section
variable {sub : Nat → Nat → Bool} {Γ : Gam} {E : PX}
section
variable {h : AH} {i j : Int} {s t : S} {x y v : D} {xs ys : List D} {a b n : Nat} {p q : Bool}
theorem p_addI : prim sub .add [.int i, .int j] h = some (.int (i + j), h) := rfl
theorem p_subI : prim sub .sub [.int i, .int j] h = some (.int (i - j), h) := rfl
theorem smallI_of (hj : -18446744073709551616 < j ∧ j < 18446744073709551616) : smallI j = true := smallI_iff.mpr hj
theorem p_mulI (hj : -18446744073709551616 < j ∧ j < 18446744073709551616) : prim sub .mul [.int i, .int j] h = some (.int (i * j), h) := if_pos (by rw [smallI_of hj, Bool.or_true, Bool.true_or])
theorem p_mulI' (hj : -18446744073709551616 < i ∧ i < 18446744073709551616) : prim sub .mul [.int i, .int j] h = some (.int (i * j), h) := if_pos (by rw [smallI_of hj, Bool.true_or, Bool.true_or])
theorem bigI_of (hj : -2037035976334486086268445688409378161051468393665936250636140449354381299763336706183397376 < j ∧ j < 2037035976334486086268445688409378161051468393665936250636140449354381299763336706183397376) : bigI j = true := bigI_iff.mpr hj
theorem p_fdiv (h0 : 0 < j ∧ j < 1073741824) : prim sub .fdiv [.int i, .int j] h = some (.int (i / j), h) := if_pos ⟨h0.1, bigI_of (by omega)⟩
theorem p_fdivB (h0 : 0 < j ∧ j < 2037035976334486086268445688409378161051468393665936250636140449354381299763336706183397376) : prim sub .fdiv [.int i, .int j] h = some (.int (i / j), h) := if_pos ⟨h0.1, bigI_of (by omega)⟩
theorem p_mod (h0 : 0 < j) : prim sub .mod [.int i, .int j] h = some (.int (i % j), h) := if_pos h0
theorem p_neg : prim sub .neg [.int i] h = some (.int (-i), h) := rfl
theorem p_lt : prim sub .lt [.int i, .int j] h = some (.bl (decide (i < j)), h) := rfl
theorem p_le : prim sub .le [.int i, .int j] h = some (.bl (decide (i ≤ j)), h) := rfl
theorem p_gt : prim sub .gt [.int i, .int j] h = some (.bl (decide (j < i)), h) := rfl
theorem p_ge : prim sub .ge [.int i, .int j] h = some (.bl (decide (j ≤ i)), h) := rfl
theorem p_app (ha : h[a]? = some (.lst xs)) (hl : xs.length < 16777216) : prim sub .append [.ref a, v] h = some (.non, h.set a (.lst (xs ++ [v]))) := by
  show (match h[a]? with | some (.lst xs) => setL a (xs ++ [v]) .non h | _ => none) = _
  rw [ha]
  exact if_pos (by simp [lim]; omega)
theorem p_lenL (ha : h[a]? = some (.lst xs)) : prim sub .len [.ref a] h = some (.int xs.length, h) := by
  show (match h[a]? with | some (.lst xs) => _ | some (.dct xs) => _ | _ => none) = _
  rw [ha]
end
theorem wp_for {tg : List Nat} {k : IK} {src : Exs} {b : Sms} {K : En} {σ : Lo} {h h1 : AH} {J : It} {xs : List D} {vs : List D} (Pv : Nat → Lo → AH → Prop)
    (he : ∀ Q : List D → AH → Prop, Q vs h1 → wpEs sub Γ E src σ h Q) (hi : iterOf k vs h1 = some J) (h0 : Pv 0 σ h1)
    (hJ : ∀ i σ h, i ≤ xs.length → Pv i σ h → J i h = some xs[i]?)
    (hs : ∀ i v σ h, xs[i]? = some v → Pv i σ h → ∃ σ', bindT tg v σ = some σ' ∧ wpSs sub Γ E b { nx := Pv (i + 1), rt := K.rt, bk := K.nx, ct := Pv (i + 1) } σ' h)
    (hd : ∀ σ h, Pv xs.length σ h → K.nx σ h) : wpS sub Γ E (.forr tg k src b) K σ h := by
  simp only [wpS]
  refine he _ ?_
  simp only [hi]
  refine ⟨fun i m σ h => m = xs.length - i ∧ i ≤ xs.length ∧ Pv i σ h, ⟨xs.length, by simp, Nat.zero_le _, h0⟩, ?_⟩
  rintro i m σ h ⟨rfl, hin, p⟩
  rw [hJ i σ h hin p]
  cases e : xs[i]? with
  | some v =>
    have hlt : i < xs.length := (List.getElem?_eq_some_iff.mp e).1
    obtain ⟨σ', eb, w⟩ := hs i v σ h e p
    simp only [eb]
    exact ⟨_, fun σ h p => ⟨xs.length - (i + 1), by omega, rfl, hlt, p⟩, w⟩
  | none =>
    have : i = xs.length := by have := List.getElem?_eq_none_iff.mp e; omega
    subst this
    exact hd σ h p
theorem wp_rng {tg : List Nat} {src : Exs} {b : Sms} {K : En} {σ : Lo} {h h1 : AH} {lo : Int} {n : Nat} {vs : List D} (Pv : Nat → Lo → AH → Prop)
    (he : ∀ Q : List D → AH → Prop, Q vs h1 → wpEs sub Γ E src σ h Q) (hi : iterOf .rng vs h1 = some (itRng lo n)) (h0 : Pv 0 σ h1)
    (hs : ∀ i σ h, i < n → Pv i σ h → ∃ σ', bindT tg (.int (lo + i)) σ = some σ' ∧ wpSs sub Γ E b { nx := Pv (i + 1), rt := K.rt, bk := K.nx, ct := Pv (i + 1) } σ' h)
    (hd : ∀ σ h, Pv n σ h → K.nx σ h) : wpS sub Γ E (.forr tg .rng src b) K σ h := by
  refine wp_for (xs := (List.range n).map fun i => .int (lo + (i : Nat))) (J := itRng lo n) Pv he hi h0 ?_ ?_ ?_
  · intro i σ h hin p
    simp only [List.length_map, List.length_range] at hin
    unfold itRng
    by_cases hlt : i < n
    · rw [if_pos hlt, List.getElem?_map, List.getElem?_range hlt]; rfl
    · rw [if_neg hlt, List.getElem?_eq_none (by simp; omega)]
  · intro i v σ h e p
    have hlt : i < n := by have := (List.getElem?_eq_some_iff.mp e).1; simpa using this
    rw [List.getElem?_map, List.getElem?_range hlt] at e
    cases e
    exact hs i σ h hlt p
  · intro σ h p
    simp only [List.length_map, List.length_range] at p
    exact hd σ h p
end
end Z
set_option linter.all false
namespace Z
theorem sLt_eq : ∀ a b : List Nat, sLt a b = decide (a < b)
  | [], [] => by simp [sLt]
  | [], _ :: _ => by simp [sLt]
  | _ :: _, [] => by simp [sLt]
  | x :: xs, y :: ys => by
    simp only [sLt]
    by_cases e : x = y
    · subst e
      rw [if_pos rfl, sLt_eq xs ys]
      simp [List.cons_lt_cons_iff]
    · rw [if_neg e]
      simp [List.cons_lt_cons_iff, e]
noncomputable def nd (a b : S) : Prop := ¬ b < a
theorem nd_of_sLt {a b : S} (h : sLt a b = true) : nd a b := by
  rw [sLt_eq] at h
  exact fun z => List.lt_asymm (of_decide_eq_true h) z
theorem nd_of_not {a b : S} (h : ¬ sLt a b = true) : nd b a := by
  rw [sLt_eq] at h
  exact fun z => h (decide_eq_true z)
theorem nd_trans {a b c : S} (h1 : nd a b) (h2 : nd b c) : nd a c := by
  unfold nd at *
  rw [List.not_lt] at *
  exact List.le_trans h1 h2
theorem nd_antisymm {a b : S} (h1 : nd a b) (h2 : nd b a) : a = b := by
  unfold nd at *
  rw [List.not_lt] at *
  exact List.le_antisymm h1 h2
theorem insS_perm (x : S) : ∀ l : List S, (insS x l).Perm (x :: l)
  | [] => .refl _
  | y :: l => by
    simp only [insS]
    split
    · exact .refl _
    · exact ((insS_perm x l).cons y).trans (.swap x y l)
theorem insS_sorted (x : S) : ∀ {l : List S}, l.Pairwise nd → (insS x l).Pairwise nd
  | [], _ => by simp [insS]
  | y :: l, h => by
    obtain ⟨h1, h2⟩ := List.pairwise_cons.mp h
    simp only [insS]
    split
    · rename_i hx
      refine List.pairwise_cons.mpr ⟨fun z hz => ?_, h⟩
      rcases List.mem_cons.mp hz with rfl | hz
      · exact nd_of_sLt hx
      · exact nd_trans (nd_of_sLt hx) (h1 z hz)
    · rename_i hx
      refine List.pairwise_cons.mpr ⟨fun z hz => ?_, insS_sorted x h2⟩
      rcases List.mem_cons.mp ((insS_perm x l).mem_iff.mp hz) with rfl | hz
      · exact nd_of_not hx
      · exact h1 z hz
theorem foldS_perm : ∀ (l acc : List S), (l.foldl (fun acc x => insS x acc) acc).Perm (l ++ acc)
  | [], acc => .refl _
  | x :: l, acc => by
    refine (foldS_perm l (insS x acc)).trans ?_
    exact ((insS_perm x acc).append_left l).trans List.perm_middle
theorem foldS_sorted : ∀ (l acc : List S), acc.Pairwise nd → (l.foldl (fun acc x => insS x acc) acc).Pairwise nd
  | [], acc, h => h
  | x :: l, acc, h => foldS_sorted l (insS x acc) (insS_sorted x h)
theorem sortS_perm (l : List S) : (sortS l).Perm l := by have h := foldS_perm l []; rw [List.append_nil] at h; exact h
theorem sortS_sorted (l : List S) : (sortS l).Pairwise nd := foldS_sorted l [] .nil
theorem sorted_unique : ∀ {l l' : List S}, l.Perm l' → l.Pairwise nd → l'.Pairwise nd → l = l'
  | [], l', p, _, _ => (List.nil_perm.mp p).symm
  | x :: l, [], p, _, _ => (List.nil_perm.mp p.symm)
  | x :: l, y :: l', p, h, h' => by
    obtain ⟨h1, h2⟩ := List.pairwise_cons.mp h
    obtain ⟨h3, h4⟩ := List.pairwise_cons.mp h'
    have e : x = y := by
      rcases List.mem_cons.mp (p.mem_iff.mp List.mem_cons_self) with e | hx
      · exact e
      · rcases List.mem_cons.mp (p.mem_iff.mpr List.mem_cons_self) with e | hy
        · exact e.symm
        · exact nd_antisymm (h1 y hy) (h3 x hx)
    subst e
    rw [sorted_unique (List.perm_cons x |>.mp p) h2 h4]
theorem sortS_eq {l l' : List S} (p : l'.Perm l) (h : l'.Pairwise nd) : l' = sortS l := sorted_unique (p.trans (sortS_perm l).symm) h (sortS_sorted l)
end Z
set_option linter.all false
namespace Z
section
variable {sub : Nat → Nat → Bool} {Γ : Gam} {E E' : PX}
noncomputable def GMono (Γ : Gam) : Prop := ∀ f vs h (Q Q' : PV) (E E' : PX), (∀ v h', Q v h' → Q' v h') → (∀ v h', E v h' → E' v h') → Γ f vs h Q E → Γ f vs h Q' E'
mutual
theorem wpE_mono (hΓ : GMono Γ) (hE : ∀ x h, E x h → E' x h) : ∀ (e : Ex) (σ : Lo) (h : AH) (Q Q' : PV), (∀ v h', Q v h' → Q' v h') → wpE sub Γ E e σ h Q → wpE sub Γ E' e σ h Q'
  | .var i, σ, h, Q, Q', m, w => by
    simp only [wpE] at w ⊢
    split at w
    · rename_i v e; exact m _ _ w
    · exact w.elim
  | .lit d, σ, h, Q, Q', m, w => by simp only [wpE] at w ⊢; exact m _ _ w
  | .prim p es, σ, h, Q, Q', m, w => by
    simp only [wpE] at w ⊢
    refine wpEs_mono hΓ hE es σ h _ _ (fun vs h1 q => ?_) w
    split at q
    · rename_i e; exact m _ _ q
    · exact q.elim
  | .andV a b, σ, h, Q, Q', m, w => by
    simp only [wpE] at w ⊢
    refine wpE_mono hΓ hE a σ h _ _ (fun x h1 q => ?_) w
    split at q
    · exact wpE_mono hΓ hE b σ h1 _ _ m q
    · exact m _ _ q
    · exact q.elim
  | .orV a b, σ, h, Q, Q', m, w => by
    simp only [wpE] at w ⊢
    refine wpE_mono hΓ hE a σ h _ _ (fun x h1 q => ?_) w
    split at q
    · exact m _ _ q
    · exact wpE_mono hΓ hE b σ h1 _ _ m q
    · exact q.elim
  | .tst t, σ, h, Q, Q', m, w => by
    simp only [wpE] at w ⊢
    exact wpT_mono hΓ hE t σ h _ _ (fun c h1 q => m _ _ q) w
  | .ite c a b, σ, h, Q, Q', m, w => by
    simp only [wpE] at w ⊢
    refine wpT_mono hΓ hE c σ h _ _ (fun k h1 q => ?_) w
    cases k
    · exact wpE_mono hΓ hE b σ h1 _ _ m q
    · exact wpE_mono hΓ hE a σ h1 _ _ m q
  | .chain p q a b c, σ, h, Q, Q', m, w => by
    simp only [wpE] at w ⊢
    refine wpE_mono hΓ hE a σ h _ _ (fun x h1 q1 => wpE_mono hΓ hE b σ h1 _ _ (fun y h2 q2 => ?_) q1) w
    split at q2
    · rename_i e
      refine wpE_mono hΓ hE c σ _ _ _ (fun z h4 q4 => ?_) q2
      split at q4
      · rename_i e; exact m _ _ q4
      · exact q4.elim
    · rename_i e; exact m _ _ q2
    · exact q2.elim
  | .slc a b c, σ, h, Q, Q', m, w => by
    simp only [wpE] at w ⊢
    refine wpE_mono hΓ hE a σ h _ _ (fun x h1 q1 => wpE_mono hΓ hE b σ h1 _ _ (fun y h2 q2 => ?_) q1) w
    split at q2
    · refine wpE_mono hΓ hE c σ _ _ _ (fun z h4 q4 => ?_) q2
      split at q4
      · split at q4
        · rename_i e; exact m _ _ q4
        · exact q4.elim
      · exact q4.elim
    · exact q2.elim
  | .mth k p o es, σ, h, Q, Q', m, w => by
    simp only [wpE] at w ⊢
    refine wpE_mono hΓ hE o σ h _ _ (fun x h1 q1 => ⟨q1.1, wpEs_mono hΓ hE es σ h1 _ _ (fun vs h2 q => ?_) q1.2⟩) w
    split at q
    · rename_i e; exact m _ _ q
    · exact q.elim
  | .call f es ds, σ, h, Q, Q', m, w => by
    simp only [wpE] at w ⊢
    exact wpEs_mono hΓ hE es σ h _ _ (fun vs h1 q => hΓ _ _ _ _ _ _ _ m (fun _ _ z => z) q) w
  | .comp k src nt cond elt, σ, h, Q, Q', m, w => by
    simp only [wpE] at w ⊢
    refine wpEs_mono hΓ hE src σ h _ _ (fun vs h1 q => ?_) w
    split at q
    · exact q.elim
    · rename_i J e
      obtain ⟨W, hW, t⟩ := q
      refine ⟨W, hW, fun i n h2 w2 => ?_⟩
      have t := t i n h2 w2
      split at t
      · exact t.elim
      · exact m _ _ t
      · split at t
        · exact t.elim
        · obtain ⟨N, hN, t⟩ := t
          refine ⟨N, hN, wpC_mono hΓ hE cond _ _ _ _ (fun c h3 q => ?_) t⟩
          cases c
          · exact q
          · exact wpE_mono hΓ hE elt _ _ _ _ (fun x h4 q => q) q
  | .make c f es, σ, h, Q, Q', m, w => by
    simp only [wpE] at w ⊢
    exact wpEs_mono hΓ hE es σ h _ _ (fun vs h1 q => hΓ _ _ _ _ _ _ _ (fun v h2 z => ⟨z.1, m _ _ z.2⟩) (fun _ _ z => z) q) w
  | .meth n tab o es, σ, h, Q, Q', m, w => by
    simp only [wpE] at w ⊢
    refine wpE_mono hΓ hE o σ h _ _ (fun x h1 q => ?_) w
    split at q
    · split at q
      · refine ⟨q.1, ?_⟩
        have q := q.2
        split at q
        · exact wpEs_mono hΓ hE es σ h1 _ _ (fun vs h2 z => hΓ _ _ _ _ _ _ _ m (fun _ _ z => z) z) q
        · exact q.elim
      · exact q.elim
    · exact q.elim
  | .srt e, σ, h, Q, Q', m, w => by
    simp only [wpE] at w ⊢
    refine wpE_mono hΓ hE e σ h _ _ (fun x h1 q => ?_) w
    split at q
    · split at q
      · exact ⟨q.1, q.2.1, fun ys hp => m _ _ (q.2.2 ys hp)⟩
      · exact q.elim
    · exact q.elim
  | .callX f es, σ, h, Q, Q', m, w => by
    simp only [wpE] at w ⊢
    exact wpEs_mono hΓ hE es σ h _ _ (fun vs h1 q => hΓ _ _ _ _ _ _ _ m hE q) w
  | .sset e, σ, h, Q, Q', m, w => by
    simp only [wpE] at w ⊢
    refine wpE_mono hΓ hE e σ h _ _ (fun x h1 q => ?_) w
    split at q
    · split at q
      · split at q
        · exact ⟨q.1, fun js h1 h2 => m _ _ (q.2 js h1 h2)⟩
        · exact q.elim
      · exact q.elim
    · exact q.elim
theorem wpEs_mono (hΓ : GMono Γ) (hE : ∀ x h, E x h → E' x h) : ∀ (es : Exs) (σ : Lo) (h : AH) (Q Q' : List D → AH → Prop), (∀ v h', Q v h' → Q' v h') → wpEs sub Γ E es σ h Q → wpEs sub Γ E' es σ h Q'
  | .nil, σ, h, Q, Q', m, w => by simp only [wpEs] at w ⊢; exact m _ _ w
  | .cons e es, σ, h, Q, Q', m, w => by
    simp only [wpEs] at w ⊢
    exact wpE_mono hΓ hE e σ h _ _ (fun v h1 q => wpEs_mono hΓ hE es σ h1 _ _ (fun vs h2 q2 => m _ _ q2) q) w
theorem wpT_mono (hΓ : GMono Γ) (hE : ∀ x h, E x h → E' x h) : ∀ (t : Tx) (σ : Lo) (h : AH) (Q Q' : Bool → AH → Prop), (∀ v h', Q v h' → Q' v h') → wpT sub Γ E t σ h Q → wpT sub Γ E' t σ h Q'
  | .tru e, σ, h, Q, Q', m, w => by
    simp only [wpT] at w ⊢
    refine wpE_mono hΓ hE e σ h _ _ (fun v h1 q => ?_) w
    split at q
    · rename_i e; exact m _ _ q
    · exact q.elim
  | .and a b, σ, h, Q, Q', m, w => by
    simp only [wpT] at w ⊢
    refine wpT_mono hΓ hE a σ h _ _ (fun c h1 q => ?_) w
    cases c
    · exact m _ _ q
    · exact wpT_mono hΓ hE b σ h1 _ _ m q
  | .or a b, σ, h, Q, Q', m, w => by
    simp only [wpT] at w ⊢
    refine wpT_mono hΓ hE a σ h _ _ (fun c h1 q => ?_) w
    cases c
    · exact wpT_mono hΓ hE b σ h1 _ _ m q
    · exact m _ _ q
  | .not a, σ, h, Q, Q', m, w => by
    simp only [wpT] at w ⊢
    exact wpT_mono hΓ hE a σ h _ _ (fun c h1 q => m _ _ q) w
theorem wpC_mono (hΓ : GMono Γ) (hE : ∀ x h, E x h → E' x h) : ∀ (t : Txs) (σ : Lo) (h : AH) (Q Q' : Bool → AH → Prop), (∀ v h', Q v h' → Q' v h') → wpC sub Γ E t σ h Q → wpC sub Γ E' t σ h Q'
  | .none, σ, h, Q, Q', m, w => by simp only [wpC] at w ⊢; exact m _ _ w
  | .one t, σ, h, Q, Q', m, w => by simp only [wpC] at w ⊢; exact wpT_mono hΓ hE t σ h _ _ m w
end
structure EnLe (K K' : En) : Prop where
  nx : ∀ σ h, K.nx σ h → K'.nx σ h
  rt : ∀ v h, K.rt v h → K'.rt v h
  bk : ∀ σ h, K.bk σ h → K'.bk σ h
  ct : ∀ σ h, K.ct σ h → K'.ct σ h
theorem wpM_mono (hΓ : GMono Γ) (hE : ∀ x h, E x h → E' x h) {m : S} {tab : List (S × Nat)} {o : Ex} {es : Exs} {σ : Lo} {h : AH} {Q Q' : PV} {F F' : PX} (mq : ∀ v h', Q v h' → Q' v h') (mf : ∀ v h', F v h' → F' v h') (w : wpM sub Γ E m tab o es σ h Q F) : wpM sub Γ E' m tab o es σ h Q' F' := by
  unfold wpM at w ⊢
  refine wpE_mono hΓ hE o σ h _ _ (fun x h1 q => ?_) w
  split at q
  · split at q
    · refine ⟨q.1, ?_⟩
      have q := q.2
      split at q
      · exact wpEs_mono hΓ hE es σ h1 _ _ (fun vs h2 z => hΓ _ _ _ _ _ _ _ mq mf z) q
      · exact q.elim
    · exact q.elim
  · exact q.elim
mutual
theorem wpS_mono (hΓ : GMono Γ) (hE : ∀ x h, E x h → E' x h) : ∀ (s : Sm) (K K' : En) (σ : Lo) (h : AH), EnLe K K' → wpS sub Γ E s K σ h → wpS sub Γ E' s K' σ h
  | .expr e, K, K', σ, h, m, w => by simp only [wpS] at w ⊢; exact wpE_mono hΓ hE e σ h _ _ (fun _ _ q => m.nx _ _ q) w
  | .asg i e, K, K', σ, h, m, w => by simp only [wpS] at w ⊢; exact wpE_mono hΓ hE e σ h _ _ (fun _ _ q => m.nx _ _ q) w
  | .unp is e, K, K', σ, h, m, w => by
    simp only [wpS] at w ⊢
    refine wpE_mono hΓ hE e σ h _ _ (fun _ _ q => ?_) w
    split at q
    · rename_i e; exact m.nx _ _ q
    · exact q.elim
  | .setx o i v, K, K', σ, h, m, w => by
    simp only [wpS] at w ⊢
    refine wpE_mono hΓ hE v σ h _ _ (fun _ _ q1 => wpE_mono hΓ hE o σ _ _ _ (fun _ _ q2 => wpE_mono hΓ hE i σ _ _ _ (fun _ _ q => ?_) q2) q1) w
    split at q
    · rename_i e; exact m.nx _ _ q
    · exact q.elim
  | .aug i p e, K, K', σ, h, m, w => by
    simp only [wpS] at w ⊢
    split at w
    · rename_i x ex
      refine wpE_mono hΓ hE e σ h _ _ (fun _ _ q => ?_) w
      split at q
      · rename_i e; exact m.nx _ _ q
      · exact q.elim
    · exact w.elim
  | .ret e, K, K', σ, h, m, w => by simp only [wpS] at w ⊢; exact wpE_mono hΓ hE e σ h _ _ (fun _ _ q => m.rt _ _ q) w
  | .retN, K, K', σ, h, m, w => by simp only [wpS] at w ⊢; exact m.rt _ _ w
  | .ife c a b, K, K', σ, h, m, w => by
    simp only [wpS] at w ⊢
    refine wpT_mono hΓ hE c σ h _ _ (fun k h1 q => ?_) w
    cases k
    · exact wpSs_mono hΓ hE b K K' σ h1 m q
    · exact wpSs_mono hΓ hE a K K' σ h1 m q
  | .whil c b, K, K', σ, h, m, w => by
    simp only [wpS] at w ⊢
    obtain ⟨W, hW, t⟩ := w
    refine ⟨W, hW, fun n σ h w => wpT_mono hΓ hE c σ h _ _ (fun k h1 q => ?_) (t n σ h w)⟩
    cases k
    · exact m.nx _ _ q
    · obtain ⟨N, hN, q⟩ := q
      exact ⟨N, hN, wpSs_mono hΓ hE b { nx := N, rt := K.rt, bk := K.nx, ct := N } _ σ h1 ⟨fun _ _ q => q, m.rt, m.nx, fun _ _ q => q⟩ q⟩
  | .forr tg k src b, K, K', σ, h, m, w => by
    simp only [wpS] at w ⊢
    refine wpEs_mono hΓ hE src σ h _ _ (fun vs h1 q => ?_) w
    split at q
    · exact q.elim
    · rename_i J e
      obtain ⟨W, hW, t⟩ := q
      refine ⟨W, hW, fun i n σ2 h2 w2 => ?_⟩
      have t := t i n σ2 h2 w2
      split at t
      · exact t.elim
      · exact m.nx _ _ t
      · split at t
        · exact t.elim
        · rename_i eb
          obtain ⟨N, hN, q⟩ := t
          exact ⟨N, hN, wpSs_mono hΓ hE b { nx := N, rt := K.rt, bk := K.nx, ct := N } _ _ h2 ⟨fun _ _ q => q, m.rt, m.nx, fun _ _ q => q⟩ q⟩
  | .brk, K, K', σ, h, m, w => by simp only [wpS] at w ⊢; exact m.bk _ _ w
  | .cnt, K, K', σ, h, m, w => by simp only [wpS] at w ⊢; exact m.ct _ _ w
  | .pass, K, K', σ, h, m, w => by simp only [wpS] at w ⊢; exact m.nx _ _ w
  | .rais _ _, K, K', σ, h, m, w => by simp only [wpS] at w
  | .raisC c, K, K', σ, h, m, w => by simp only [wpS] at w ⊢; exact hE _ _ w
  | .tryA i f es c j hs, K, K', σ, h, m, w => by
    simp only [wpS] at w ⊢
    refine wpEs_mono hΓ hE es σ h _ _ (fun vs h1 q => hΓ _ _ _ _ _ _ _ (fun v h2 z => m.nx _ _ z) (fun x h2 z => ⟨z.1, wpSs_mono hΓ hE hs { nx := fun σ' h' => K.nx (σ'.set j none) h', rt := K.rt, bk := fun σ' h' => K.bk (σ'.set j none) h', ct := fun σ' h' => K.ct (σ'.set j none) h' } _ _ _ ⟨fun _ _ q => m.nx _ _ q, m.rt, fun _ _ q => m.bk _ _ q, fun _ _ q => m.ct _ _ q⟩ z.2⟩) q) w
  | .tryM t i m1 tab1 o1 es1 m2 tab2 o2 es2 c j hs, K, K', σ, h, m, w => by
    simp only [wpS] at w ⊢
    refine wpT_mono hΓ hE t σ h _ _ (fun k h1 q => ?_) w
    have mf : ∀ (x : D) (h2 : AH), (x = .str c ∧ wpSs sub Γ E hs { nx := fun σ' h' => K.nx (σ'.set j none) h', rt := K.rt, bk := fun σ' h' => K.bk (σ'.set j none) h', ct := fun σ' h' => K.ct (σ'.set j none) h' } (σ.set j (some (.ref h2.length))) (h2 ++ [.exc c])) → (x = .str c ∧ wpSs sub Γ E' hs { nx := fun σ' h' => K'.nx (σ'.set j none) h', rt := K'.rt, bk := fun σ' h' => K'.bk (σ'.set j none) h', ct := fun σ' h' => K'.ct (σ'.set j none) h' } (σ.set j (some (.ref h2.length))) (h2 ++ [.exc c])) :=
      fun x h2 z => ⟨z.1, wpSs_mono hΓ hE hs { nx := fun σ' h' => K.nx (σ'.set j none) h', rt := K.rt, bk := fun σ' h' => K.bk (σ'.set j none) h', ct := fun σ' h' => K.ct (σ'.set j none) h' } _ _ _ ⟨fun _ _ q => m.nx _ _ q, m.rt, fun _ _ q => m.bk _ _ q, fun _ _ q => m.ct _ _ q⟩ z.2⟩
    cases k
    · exact wpM_mono hΓ hE (fun v h2 z => m.nx _ _ z) mf q
    · exact wpM_mono hΓ hE (fun v h2 z => m.nx _ _ z) mf q
theorem wpSs_mono (hΓ : GMono Γ) (hE : ∀ x h, E x h → E' x h) : ∀ (s : Sms) (K K' : En) (σ : Lo) (h : AH), EnLe K K' → wpSs sub Γ E s K σ h → wpSs sub Γ E' s K' σ h
  | .nil, K, K', σ, h, m, w => by simp only [wpSs] at w ⊢; exact m.nx _ _ w
  | .cons s ss, K, K', σ, h, m, w => by
    simp only [wpSs] at w ⊢
    exact wpS_mono hΓ hE s { K with nx := fun σ' h' => wpSs sub Γ E ss K σ' h' } _ σ h ⟨fun σ' h' q => wpSs_mono hΓ hE ss K K' σ' h' m q, m.rt, m.bk, m.ct⟩ w
end
end
theorem wpCall_mono {sub : Nat → Nat → Bool} {P : List Def} : ∀ d, GMono (wpCall sub P d)
  | 0, f, vs, h, Q, Q', E, E', m, mE, w => by simp only [wpCall] at w
  | d + 1, f, vs, h, Q, Q', E, E', m, mE, w => by
    simp only [wpCall] at w ⊢
    split at w
    · rename_i df e
      exact ⟨w.1, wpSs_mono (wpCall_mono d) mE _ { nx := fun _ h => Q .non h, rt := Q } _ _ _ ⟨fun _ _ q => m _ _ q, fun _ _ q => m _ _ q, fun _ _ q => q, fun _ _ q => q⟩ w.2⟩
    · exact w.elim
section
variable {sub : Nat → Nat → Bool} {P : List Def} {E : PX} {d : Nat}
theorem wp_imp {e : Ex} {σ : Lo} {h : AH} {Q : PV} (M : PV) (w : wpE sub (wpCall sub P d) E e σ h M) (q : ∀ v h', M v h' → Q v h') : wpE sub (wpCall sub P d) E e σ h Q := wpE_mono (wpCall_mono d) (fun _ _ z => z) e σ h _ _ q w
theorem wp_comp {k : IK} {src : Exs} {nt : Nat} {cond : Txs} {elt : Ex} {σ : Lo} {h h1 : AH} {Q : PV} {J : It} {xs vs : List D} (p : D → Bool) (g : D → D)
    (he : ∀ Q : List D → AH → Prop, Q vs h1 → wpEs sub (wpCall sub P d) E src σ h Q) (hi : iterOf k vs h1 = some J) (hl : xs.length ≤ 16777216)
    (hJ : ∀ (i : Nat) h', h1 <+: h' → J i h' = some xs[i]?)
    (hs : ∀ (i : Nat) v h2, xs[i]? = some v → h1 <+: h2 → ∃ σ', moreT nt v σ = some σ' ∧ wpC sub (wpCall sub P d) E cond σ' h2 fun c h3 => c = p v ∧ h2 <+: h3 ∧ (c = true → wpE sub (wpCall sub P d) E elt σ' h3 fun x h4 => x = g v ∧ h3 <+: h4))
    (q : ∀ h', h1 <+: h' → h'[h1.length]? = some (.lst ((xs.filter p).map g)) → Q (.ref h1.length) h') : wpE sub (wpCall sub P d) E (.comp k src nt cond elt) σ h Q := by
  simp only [wpE]
  refine he _ ?_
  simp only [hi]
  refine ⟨fun i m h' => m = xs.length - i ∧ i ≤ xs.length ∧ h1 <+: h' ∧ h'[h1.length]? = some (.lst (((xs.take i).filter p).map g)), ⟨xs.length, by simp, Nat.zero_le _, List.prefix_append _ _, by simp⟩, ?_⟩
  rintro i m h2 ⟨rfl, hin, pr, ha⟩
  rw [hJ i h2 pr]
  cases e : xs[i]? with
  | none =>
    have : i = xs.length := by have := List.getElem?_eq_none_iff.mp e; omega
    subst this
    rw [List.take_length] at ha
    exact q h2 pr ha
  | some v =>
    have hlt : i < xs.length := (List.getElem?_eq_some_iff.mp e).1
    obtain ⟨σ', em, w⟩ := hs i v h2 e pr
    simp only [em]
    refine ⟨fun h' => h1 <+: h' ∧ h'[h1.length]? = some (.lst (((xs.take (i + 1)).filter p).map g)), fun h' q' => ⟨xs.length - (i + 1), by omega, rfl, hlt, q'.1, q'.2⟩, wpC_mono (wpCall_mono d) (fun _ _ z => z) _ _ _ _ _ (fun c h3 q3 => ?_) w⟩
    obtain ⟨hc, pr3, q3⟩ := q3
    have ht : xs.take (i + 1) = xs.take i ++ [v] := by rw [List.take_succ, e]; rfl
    have pget : ∀ {a b : AH} {n : Nat} {o : AO}, a <+: b → a[n]? = some o → b[n]? = some o := fun {a b n o} pp ee => by
      obtain ⟨l, rfl⟩ := pp
      rw [List.getElem?_append_left (List.getElem?_eq_some_iff.mp ee).1]; exact ee
    cases hcc : c with
    | false =>
      rw [if_neg (by decide)]
      refine ⟨pr.trans pr3, ?_⟩
      rw [ht, List.filter_append, List.filter_cons_of_neg (by rw [← hc, hcc]; decide)]
      simpa using pget pr3 ha
    | true =>
      rw [if_pos rfl]
      refine wpE_mono (wpCall_mono d) (fun _ _ z => z) _ _ _ _ _ (fun x h4 q4 => ?_) (q3 hcc)
      obtain ⟨rfl, pr4⟩ := q4
      have ha4 := pget (pr3.trans pr4) ha
      have hll : (((xs.take i).filter p).map g).length < 16777216 := by
        have h1 := List.length_filter_le p (xs.take i)
        rw [List.length_take] at h1
        rw [List.length_map]; omega
      rw [p_app ha4 hll]
      refine ⟨?_, ?_⟩
      · obtain ⟨l, rfl⟩ := (pr.trans (pr3.trans pr4))
        rw [List.set_append_right _ _ (Nat.le_refl _)]
        exact List.prefix_append _ _
      · rw [List.getElem?_set_self (List.getElem?_eq_some_iff.mp ha4).1, ht, List.filter_append, List.filter_cons_of_pos (by rw [← hc, hcc])]
        simp
end
end Z
set_option Elab.async false
set_option linter.all false
set_option maxRecDepth 100000
namespace L2
open PySem PySem.Spec PyProof.Rows
noncomputable abbrev Key := Sum Int Str
noncomputable def keyIs : Key → Value → Bool
  | .inl k, v => Value.isInt k v
  | .inr x, v => Value.isStrOf x v
noncomputable def keyH (w : World) : Key → Int
  | .inl k => hashInt k
  | .inr x => hashStr w x
theorem keyIs_shape : ∀ {k : Key} {v : Value}, keyIs k v = true → (∃ i t, k = Sum.inl i ∧ v = Value.int i t) ∨ (∃ x t, k = Sum.inr x ∧ v = Value.str x t)
  | .inl i, v, h => by
    obtain ⟨t, e⟩ := Value.isInt_shape (k := i) (v := v) h
    exact .inl ⟨i, t, rfl, e⟩
  | .inr x, v, h => by
    obtain ⟨t, e⟩ := Value.isStrOf_shape (x := x) (v := v) h
    exact .inr ⟨x, t, rfl, e⟩
theorem keyIs_int (i : Int) (t : Tok) : keyIs (.inl i) (.int i t) = true := by simp [keyIs, Value.isInt]
theorem keyIs_str (x : Str) (t : Tok) : keyIs (.inr x) (.str x t) = true := by simp [keyIs, Value.isStrOf]
theorem key_ll (a b : Int) : decide ((Sum.inl a : Key) = Sum.inl b) = (a == b) := by
  by_cases e : a = b
  · subst e; simp
  · have h : ¬ (Sum.inl a : Key) = Sum.inl b := fun q => e (Sum.inl.inj q)
    rw [decide_eq_false h]
    exact (beq_eq_false_iff_ne.mpr e).symm
theorem key_rr (a b : Str) : decide ((Sum.inr a : Key) = Sum.inr b) = decide (a = b) := by
  by_cases e : a = b
  · subst e; simp
  · have h : ¬ (Sum.inr a : Key) = Sum.inr b := fun q => e (Sum.inr.inj q)
    rw [decide_eq_false h, decide_eq_false e]
theorem key_lr (a : Int) (b : Str) : decide ((Sum.inl a : Key) = Sum.inr b) = false := decide_eq_false (fun q => nomatch q)
theorem key_rl (a : Str) (b : Int) : decide ((Sum.inr a : Key) = Sum.inl b) = false := decide_eq_false (fun q => nomatch q)
noncomputable def mixKind (prog : Program) (w : World) : PySem.KeyKind prog w Key where
  is := keyIs
  hash := keyH w
  inj := fun v a b ha hb => by
    rcases keyIs_shape ha with ⟨i, t, rfl, rfl⟩ | ⟨x, t, rfl, rfl⟩
    · rcases keyIs_shape hb with ⟨j, u, rfl, e⟩ | ⟨y, u, rfl, e⟩
      · injection e with e1 _; rw [e1]
      · exact nomatch e
    · rcases keyIs_shape hb with ⟨j, u, rfl, e⟩ | ⟨y, u, rfl, e⟩
      · exact nomatch e
      · injection e with e1 _; rw [e1]
  byValue := fun k v h => by
    rcases keyIs_shape h with ⟨i, t, rfl, rfl⟩ | ⟨x, t, rfl, rfl⟩ <;> rfl
  pyHash := fun hv h => by
    rcases keyIs_shape hv with ⟨i, t, rfl, rfl⟩ | ⟨x, t, rfl, rfl⟩
    · exact wpAny_pyHash_int h
    · exact wpAny_pyHash_str h
  eqBool := fun hu hv h => by
    rcases keyIs_shape hu with ⟨i, t, rfl, rfl⟩ | ⟨x, t, rfl, rfl⟩
    · rcases keyIs_shape hv with ⟨j, u, rfl, rfl⟩ | ⟨y, u, rfl, rfl⟩
      · rw [key_ll] at h; exact wpAny_eqBool_int h
      · rw [key_lr] at h; exact SeqAt.EqAt.int_str i t y u _ _ _ _ h
    · rcases keyIs_shape hv with ⟨j, u, rfl, rfl⟩ | ⟨y, u, rfl, rfl⟩
      · rw [key_rl] at h; exact SeqAt.EqAt.str_int x t j u _ _ _ _ h
      · rw [key_rr] at h; exact wpAny_eqBool_str h
  «strs» := fun k x t v h => by
    rcases keyIs_shape h with ⟨i, u, rfl, e⟩ | ⟨y, u, rfl, e⟩
    · exact nomatch e
    · injection e with e1 _
      subst e1
      cases v <;> rfl
theorem mixKind_int (prog : Program) (w : World) (i : Int) (t : Tok) : (mixKind prog w).is (.inl i) (.int i t) = true := keyIs_int i t
theorem mixKind_str (prog : Program) (w : World) (x : Str) (t : Tok) : (mixKind prog w).is (.inr x) (.str x t) = true := keyIs_str x t
end L2
namespace L2
open PySem PySem.Spec PyProof.Rows
inductive V where
  | non | bl (b : Bool) | int (i : Int) | str (x : Str) | byt (b : Array UInt8) | flt (b : UInt64) | ref (a : Addr) | ty (n : String)
  deriving DecidableEq
noncomputable def RelV : V → Value → Prop
  | .non, u => u = Value.none
  | .bl b, u => u = Value.bool b
  | .int i, u => ∃ t, u = Value.int i t
  | .str x, u => ∃ t, u = Value.str x t
  | .byt b, u => ∃ t, u = Value.bytes b t
  | .flt b, u => ∃ t, u = Value.float b t
  | .ref a, u => u = Value.ref a
  | .ty n, u => u = Value.type n
noncomputable abbrev Vals : List V → List Value → Prop := Paired RelV
theorem Vals.length {xs : List V} {us : List Value} (r : Vals xs us) : xs.length = us.length := Paired.length r
theorem Vals.get : ∀ {xs : List V} {us : List Value} {i : Nat} {x : V}, Vals xs us → xs[i]? = some x → ∃ u, us[i]? = some u ∧ RelV x u
  | _, _, _, _, .nil, e => by simp at e
  | _, _, 0, _, .cons r _, e => by simp at e; subst e; exact ⟨_, rfl, r⟩
  | _, _, i + 1, x, .cons _ t, e => by
    obtain ⟨u, h1, h2⟩ := Vals.get (i := i) (x := x) t (by simpa using e)
    exact ⟨u, by simpa using h1, h2⟩
theorem Vals.append : ∀ {xs ys : List V} {us ws : List Value}, Vals xs us → Vals ys ws → Vals (xs ++ ys) (us ++ ws)
  | _, _, _, _, .nil, s => s
  | _, _, _, _, .cons r t, s => .cons r (Vals.append t s)
theorem Vals.take : ∀ {xs : List V} {us : List Value} (n : Nat), Vals xs us → Vals (xs.take n) (us.take n)
  | _, _, 0, _ => .nil
  | _, _, _ + 1, .nil => .nil
  | _, _, n + 1, .cons r t => .cons r (Vals.take n t)
theorem Vals.drop : ∀ {xs : List V} {us : List Value} (n : Nat), Vals xs us → Vals (xs.drop n) (us.drop n)
  | _, _, 0, r => r
  | _, _, _ + 1, .nil => .nil
  | _, _, n + 1, .cons _ t => Vals.drop n t
noncomputable def RelO : Option V → Option Value → Prop
  | some v, some u => RelV v u
  | none, none => True
  | _, _ => False
noncomputable def KV {κ : Type} : List (κ × V) → List (κ × Value) → Prop := Paired fun (p : κ × V) (q : κ × Value) => p.1 = q.1 ∧ RelV p.2 q.2
noncomputable def kV : Key → V
  | .inl i => .int i
  | .inr x => .str x
inductive HO where
  /-- a list -/
  | lst (xs : List V)
  /-- a tuple (never changes) -/
  | tup (xs : List V)
  /-- a dict whose keys are ints and texts; one whose keys are tuples of ints and texts (the empty one is both) -/
  | dK (kvs : List (Key × V)) | dT (kvs : List (List Key × V))
  /-- a set of ints: its members, its size -/
  | set (S : Int → Bool) (n : Nat)
  /-- an instance of the class at C, its dict at dx, its attributes -/
  | ins (C dx : Addr) (fs : List (Str × V))
  /-- the dict of the instance at x -/
  | own (x : Addr)
  /-- the dict of an exception -/
  | xd (fs : List (Str × V))
  /-- a bound method, f of x -/
  | met (f x : Addr)
  /-- a range object lo, lo + 1, .. below hi -/
  | rng (lo hi : Int)
  /-- a thing that is known to the object (the script; a dict while a loop walks it): read, never written while it is so -/
  | frz (o : Obj) (u : HO)
  /-- a code object's table -/
  | tbl (ps : Array Value)
  /-- any other thing, by what is true of its one object (a def of one's own: SetO a S n := HO.ext fun h => ..) -/
  | ext (φ : Heap → Prop)
noncomputable abbrev Hp := Addr → Option HO
noncomputable def upd (H : Hp) (a : Addr) (o : HO) : Hp := fun b => if b = a then some o else H b
theorem upd_same {H : Hp} {a : Addr} {o : HO} : upd H a o a = some o := by unfold upd; rw [if_pos rfl]
theorem upd_ne {H : Hp} {a b : Addr} {o : HO} (h : b ≠ a) : upd H a o b = H b := by unfold upd; rw [if_neg h]
theorem ne_of {H : Hp} {a b : Addr} {o u : HO} (h : H a = some o) (h' : H b = some u) (d : o ≠ u) : a ≠ b := by
  intro e; subst e; rw [h] at h'; exact d (Option.some.inj h')
theorem ne_of_none {H : Hp} {a b : Addr} {o : HO} (h : H a = some o) (h' : H b = none) : a ≠ b := by
  intro e; subst e; rw [h] at h'; cases h'
noncomputable def IsTupN (h : Heap) (a : Addr) (items : Array Value) : Prop := IsTup h a items ∧ ∃ o, h.get? a = some o ∧ o.dict = none
theorem IsTupN.new (h : Heap) (items : Array Value) : IsTupN (h.push { cls := .type "tuple", data := .seq items }) h.objs.size items := ⟨IsTup.new h items, _, Heap.get?_push_size _ rfl, rfl⟩
section
variable (P : Program) (w : World)
noncomputable def ObjOk (H : Hp) (h : Heap) (a : Addr) : HO → Prop
  | .lst xs => xs.length ≤ sizeLine ∧ ∃ (its : List Value) (n : Nat), Vals xs its ∧ h.get? a = some { cls := .type "list", data := .seq its.toArray n }
  | .tup xs => xs.length ≤ sizeLine ∧ ∃ its : List Value, Vals xs its ∧ IsTupN h a its.toArray
  | .dK kvs => kvs.length ≤ sizeLine ∧ (a == sysModules) = false ∧ ∃ vs, KV kvs vs ∧ h.DictOf (mixKind P w) a vs
  | .dT kvs => kvs.length ≤ sizeLine ∧ (a == sysModules) = false ∧ ∃ xs : List (List Key × Addr × Value),
      Paired (fun (p : List Key × V) (q : List Key × Addr × Value) => p.1 = q.1 ∧ H q.2.1 = some (.tup (p.1.map kV)) ∧ RelV p.2 q.2.2) kvs xs ∧
      ∃ o es ep, h.get? a = some o ∧ o.ExactDict ∧ o.data = .dict es ep ∧ es.toList = xs.map (entryOfKey (tupleKind (mixKind P w))) ∧ (xs.map (·.1)).Nodup
  | .set S n => h.SetOf (intKind P w) a S n
  | .ins C dx fs => H dx = some (.own a) ∧ fs.length ≤ 1000 ∧ dx ≠ a ∧ h.get? a = some (PySem.W.instObj C dx) ∧
      ∃ mA, h.Ns1 dx mA ∧ (∀ f, RelO (fs.lookup f) (mA f)) ∧ PySem.Within mA (fs.map (·.1))
  | .own _ => ∃ o, h.get? a = some o
  | .xd fs => ∃ mA, h.Ns1 a mA ∧ ∀ f, RelO (fs.lookup f) (mA f)
  | .rng lo hi => ∃ t u v, h.get? a = some { cls := .type "range", data := .fields #[.int lo t, .int hi u, .int 1 v] }
  | .frz o u => h.get? a = some o ∧ ObjOk H h a u
  | .tbl ps => h.get? a = some { cls := .none, data := .fields ps }
  | .met f x => h.get? a = some (PySem.W.methodObj (.ref f) (.ref x))
  | .ext φ => φ h ∧ (∃ o, h.get? a = some o) ∧ ∀ h1 h2 : Heap, φ h1 → (∀ o, h1.get? a = some o → h2.get? a = some o) → φ h2
noncomputable def HOk (H : Hp) (h : Heap) : Prop := ∀ a o, H a = some o → ObjOk P w H h a o
end
section
variable {P : Program} {w : World} {H H' : Hp} {h h' : Heap} {a : Addr} {o : HO}
theorem ObjOk.lt (x : ObjOk P w H h a o) : a < h.objs.size := by
  cases o with
  | lst xs => obtain ⟨_, _, _, _, e⟩ := x; exact Heap.lt_size e
  | tup xs => obtain ⟨_, _, _, p⟩ := x; exact p.1.lt
  | dK kvs => obtain ⟨_, _, _, _, o, _, _, e, _⟩ := x; exact Heap.lt_size e
  | dT kvs => obtain ⟨_, _, _, _, o, _, _, e, _⟩ := x; exact Heap.lt_size e
  | set S n => obtain ⟨o, _, _, _, e, _⟩ := x; exact Heap.lt_size e
  | ins C dx fs => obtain ⟨_, _, _, e, _⟩ := x; exact Heap.lt_size e
  | own y => obtain ⟨_, e⟩ := x; exact Heap.lt_size e
  | xd fs => obtain ⟨_, ⟨_, _, _, e, _⟩, _⟩ := x; exact Heap.lt_size e
  | rng lo hi => obtain ⟨_, _, _, e⟩ := x; exact Heap.lt_size e
  | frz ob u => obtain ⟨e, _⟩ := x; exact Heap.lt_size e
  | tbl ps => exact Heap.lt_size (show h.get? a = some _ from x)
  | met f y => exact Heap.lt_size (show h.get? a = some _ from x)
  | ext φ => obtain ⟨_, ⟨_, e⟩, _⟩ := x; exact Heap.lt_size e
theorem Paired.mapP {α β : Type} {F G : α → β → Prop} : ∀ {l₁ : List α} {l₂ : List β}, Paired F l₁ l₂ → (∀ a b, F a b → G a b) → Paired G l₁ l₂
  | _, _, .nil, _ => .nil
  | _, _, .cons r t, f => .cons (f _ _ r) (Paired.mapP t f)
theorem ObjOk.stay (x : ObjOk P w H h a o) (k : ∀ b u, (b = a ∨ H b = some (.own a)) → h.get? b = some u → h'.get? b = some u)
    (ho : ∀ b, H b = some (.own a) → H' b = some (.own a)) (ht : ∀ b xs, H b = some (.tup xs) → H' b = some (.tup xs)) : ObjOk P w H' h' a o := by
  induction o with
  | lst xs => obtain ⟨z, its, n, r, e⟩ := x; exact ⟨z, its, n, r, k _ _ (.inl rfl) e⟩
  | tup xs => obtain ⟨z, its, r, ⟨ob, e, c⟩, ob', e', d⟩ := x; exact ⟨z, its, r, ⟨ob, k _ _ (.inl rfl) e, c⟩, ob', k _ _ (.inl rfl) e', d⟩
  | dK kvs => obtain ⟨z, y, vs, r, ob, es, ep, e, c⟩ := x; exact ⟨z, y, vs, r, ob, es, ep, k _ _ (.inl rfl) e, c⟩
  | dT kvs =>
    obtain ⟨z, y, xs, r, ob, es, ep, e, c⟩ := x
    exact ⟨z, y, xs, Paired.mapP r fun p q z => ⟨z.1, ht _ _ z.2.1, z.2.2⟩, ob, es, ep, k _ _ (.inl rfl) e, c⟩
  | set S n => obtain ⟨ob, es, ep, t, e, c⟩ := x; exact ⟨ob, es, ep, t, k _ _ (.inl rfl) e, c⟩
  | ins C dx fs =>
    obtain ⟨d, z, ne, e, mA, ⟨od, es, ep, e2, c⟩, r⟩ := x
    exact ⟨ho _ d, z, ne, k _ _ (.inl rfl) e, mA, ⟨od, es, ep, k _ _ (.inr d) e2, c⟩, r⟩
  | own y => obtain ⟨ob, e⟩ := x; exact ⟨ob, k _ _ (.inl rfl) e⟩
  | xd fs => obtain ⟨mA, ⟨od, es, ep, e, c⟩, r⟩ := x; exact ⟨mA, ⟨od, es, ep, k _ _ (.inl rfl) e, c⟩, r⟩
  | rng lo hi => obtain ⟨t, u, v, e⟩ := x; exact ⟨t, u, v, k _ _ (.inl rfl) e⟩
  | frz ob u ih => obtain ⟨e, q⟩ := x; exact ⟨k _ _ (.inl rfl) e, ih q⟩
  | tbl ps =>
    have e : h.get? a = some { cls := .none, data := .fields ps } := x
    show h'.get? a = some { cls := .none, data := .fields ps }
    exact k a _ (.inl rfl) e
  | met f y =>
    have e : h.get? a = some (PySem.W.methodObj (.ref f) (.ref y)) := x
    show h'.get? a = some (PySem.W.methodObj (.ref f) (.ref y))
    exact k a _ (.inl rfl) e
  | ext φ => obtain ⟨p, ⟨o, e⟩, st⟩ := x; exact ⟨st _ _ p fun o q => k _ _ (.inl rfl) q, ⟨o, k _ _ (.inl rfl) e⟩, st⟩
theorem HOk.lt (x : HOk P w H h) (e : H a = some o) : a < h.objs.size := (x a o e).lt
theorem HOk.fresh (x : HOk P w H h) (e : h.objs.size ≤ a) : H a = none := by
  cases q : H a with
  | none => rfl
  | some u => exact absurd (Nat.lt_of_lt_of_le (x.lt q) e) (Nat.lt_irrefl _)
theorem HOk.kept (x : HOk P w H h) (k : ∀ b u, h.get? b = some u → h'.get? b = some u) : HOk P w H h' := fun a o e =>
  (x a o e).stay (fun b u _ q => k b u q) (fun _ q => q) fun _ _ q => q
theorem HOk.laid (x : HOk P w H h) (k : ∀ b u, h.get? b = some u → h'.get? b = some u) (hp : h.objs.size ≤ a) (new : ObjOk P w (upd H a o) h' a o) : HOk P w (upd H a o) h' := fun b u e => by
  have hn := x.fresh hp
  by_cases hb : b = a
  · subst hb; rw [upd_same] at e; cases e; exact new
  · rw [upd_ne hb] at e
    exact (x b u e).stay (fun c v _ q => k c v q) (fun c q => by rw [upd_ne (ne_of_none q hn)]; exact q) fun c xs q => by rw [upd_ne (ne_of_none q hn)]; exact q
end
noncomputable def Rd (H : Hp) (a : Addr) (u : HO) : Prop := H a = some u ∨ ∃ o, H a = some (.frz o u)
theorem Rd.ok {P : Program} {w : World} {H : Hp} {h : Heap} {a : Addr} {u : HO} (r : Rd H a u) (x : HOk P w H h) : ObjOk P w H h a u := by
  rcases r with r | ⟨o, r⟩
  · exact x a u r
  · obtain ⟨_, q⟩ := x a _ r
    exact q
noncomputable def Mut : Option HO → Prop
  | some (.lst _) => True
  | some (.dK _) => True
  | some (.dT _) => True
  | some (.set _ _) => True
  | some (.ins _ _ _) => True
  | some (.ext _) => True
  | _ => False
section
variable {P : Program} {w : World} {H : Hp} {h h' : Heap} {x e : Addr} {o' : HO}
theorem HOk.write (ok : HOk P w H h) (mu : Mut (H x)) (he : e = x ∨ H e = some (.own x)) (k : ∀ b u, b ≠ e → h.get? b = some u → h'.get? b = some u) (heo : ∃ u, h'.get? e = some u)
    (new : ObjOk P w (upd H x o') h' x o') : HOk P w (upd H x o') h' := fun b u q => by
  have nown : ∀ c y, H c = some (.own y) → c ≠ x := fun c y r z => by subst z; rw [r] at mu; exact mu
  have ntup : ∀ c xs, H c = some (.tup xs) → c ≠ x := fun c xs r z => by subst z; rw [r] at mu; exact mu
  by_cases hb : b = x
  · subst hb; rw [upd_same] at q; cases q; exact new
  · rw [upd_ne hb] at q
    by_cases hbe : b = e
    · have q' : H b = some (.own x) := by
        rcases he with z | z
        · exact absurd (hbe.trans z) hb
        · rw [hbe]; exact z
      rw [q] at q'; cases q'
      obtain ⟨v, hv⟩ := heo
      exact ⟨v, by rw [hbe]; exact hv⟩
    · refine (ok b u q).stay (fun c v hc r => k c v ?_ r) (fun c r => by rw [upd_ne (nown c b r)]; exact r) fun c xs r => by rw [upd_ne (ntup c xs r)]; exact r
      rcases hc with rfl | hc
      · exact hbe
      · rintro rfl
        rcases he with z | z
        · exact nown c b hc z
        · rw [hc] at z; cases z; exact hb rfl
end
structure Un (fs ex : List Addr) (H H' : Hp) (h h' : Heap) : Prop where
  keep : ∀ b o, h.get? b = some o → H b = none → b ∉ fs → b ∉ ex → h'.get? b = some o
  slot : ∀ b o, h.get? b = some o → H b = none → b ∈ fs → b ∉ ex → ∃ sl, h'.get? b = some { o with slots := sl }
  free : ∀ b o, h.get? b = some o → H b = none → b ∉ ex → H' b = none
  there : ∀ b o, h.get? b = some o → b ∉ ex → ∃ o', h'.get? b = some o'
  tups : ∀ b xs, H b = some (.tup xs) → H' b = some (.tup xs)
  frzs : ∀ b o u, H b = some (.frz o u) → H' b = some (.frz o u)
  tbls : ∀ b ps, H b = some (.tbl ps) → ∃ more, H' b = some (.tbl (ps ++ more))
section
variable {fs fs' ex ex' : List Addr} {H H1 H2 : Hp} {h h1 h2 h' : Heap} {a x e : Addr} {o : HO}
theorem Un.any (u : Un fs ex H H1 h h1) {b : Addr} {ob : Obj} (q : h.get? b = some ob) (n : H b = none) (hx : b ∉ ex) : ∃ sl, h1.get? b = some { ob with slots := sl } := by
  by_cases hb : b ∈ fs
  · exact u.slot b ob q n hb hx
  · exact ⟨ob.slots, u.keep b ob q n hb hx⟩
theorem Un.kept (k : ∀ b u, h.get? b = some u → h'.get? b = some u) : Un fs ex H H h h' :=
  ⟨fun b ob q _ _ _ => k b ob q, fun b ob q _ _ _ => ⟨ob.slots, k b ob q⟩, fun _ _ _ n _ => n, fun b ob q _ => ⟨ob, k b ob q⟩, fun _ _ q => q, fun _ _ _ q => q, fun _ ps q => ⟨#[], by rw [q]; simp⟩⟩
theorem Un.refl : Un fs ex H H h h := Un.kept fun _ _ q => q
theorem Un.laid (k : ∀ b u, h.get? b = some u → h'.get? b = some u) (hp : h.objs.size ≤ a) (hn : H a = none) : Un fs ex H (upd H a o) h h' where
  keep := fun b u q _ _ _ => k b u q
  slot := fun b u q _ _ _ => ⟨u.slots, k b u q⟩
  free := fun b u q n _ => by rw [upd_ne (Nat.ne_of_lt (Nat.lt_of_lt_of_le (Heap.lt_size q) hp))]; exact n
  there := fun b u q _ => ⟨u, k b u q⟩
  tups := fun b xs q => by rw [upd_ne (ne_of_none q hn)]; exact q
  frzs := fun b u xs q => by rw [upd_ne (ne_of_none q hn)]; exact q
  tbls := fun b ps q => ⟨#[], by rw [upd_ne (ne_of_none q hn), q]; simp⟩
theorem Un.write (mu : Mut (H x)) (he : e = x ∨ H e = some (.own x)) (k : ∀ b u, b ≠ e → h.get? b = some u → h'.get? b = some u) (heo : ∃ u, h'.get? e = some u) : Un fs ex H (upd H x o) h h' := by
  have hx : ∀ b, H b = none → b ≠ x := fun b n z => by subst z; rw [n] at mu; exact mu
  have hb : ∀ b, H b = none → b ≠ e := fun b n z => by
    subst z
    rcases he with r | r
    · exact hx b n r
    · rw [n] at r; cases r
  have hm : ∀ b u, H b = some u → ¬ Mut (some u) → b ≠ x := fun b u q nm z => by subst z; rw [q] at mu; exact nm mu
  refine ⟨fun b u q n _ _ => k b u (hb b n) q, fun b u q n _ _ => ⟨u.slots, k b u (hb b n) q⟩, fun b u q n _ => by rw [upd_ne (hx b n)]; exact n, fun b u q _ => ?_,
    fun b xs q => by rw [upd_ne (hm b _ q fun z => z)]; exact q, fun b u xs q => by rw [upd_ne (hm b _ q fun z => z)]; exact q, fun b ps q => ⟨#[], by rw [upd_ne (hm b _ q fun z => z), q]; simp⟩⟩
  by_cases hbe : b = e
  · subst hbe; exact heo
  · exact ⟨u, k b u hbe q⟩
end
noncomputable def trk (h : Heap) (H : Hp) : List Addr := (List.range h.objs.size).filter fun a => (H a).isSome
noncomputable def hidT (h : Heap) (H : Hp) : Heap := PySem.W.hideAll h (trk h H)
theorem hidT_size (h : Heap) (H : Hp) : (hidT h H).objs.size = h.objs.size := PySem.W.hideAll_size _ _
theorem hidT_get {h : Heap} {H : Hp} {b : Addr} {o : Obj} (e : h.get? b = some o) (n : H b = none) : (hidT h H).get? b = some o :=
  PySem.W.hideAll_get _ e fun hm => by
    have q : (H b).isSome = true := (List.mem_filter.mp hm).2
    rw [n] at q; simp at q
theorem of_hidT {h : Heap} {H : Hp} {b : Addr} {o : Obj} (e : (hidT h H).get? b = some o) : h.get? b = some o ∧ H b = none := by
  have e' : h.get? b = some o := PySem.W.of_hideAll (trk h H) e
  refine ⟨e', ?_⟩
  cases q : H b with
  | none => rfl
  | some x =>
    have hm : b ∈ trk h H := List.mem_filter.mpr ⟨List.mem_range.mpr (Heap.lt_size e'), by simp [q]⟩
    have z : (hidT h H).get? b = none := PySem.W.hideAll_none (trk h H) hm
    rw [z] at e; cases e
noncomputable def allNews (g h : Heap) (L : Addr) : List (Addr × Obj) := (List.range h.objs.size).filterMap fun a => if a = L ∨ (g.get? a).isSome = true then none else (h.get? a).map fun o => (a, o)
noncomputable def rest (g h : Heap) (L d : Addr) : List (Addr × Obj) := (allNews g h L).filter fun p => decide (p.1 ≠ d)
end L2
namespace L2
open PySem PySem.Spec PyProof.Rows
structure Mod (K : PySem.W.Frag) (mg : Str → Option Value) (base : Heap) : Prop where
  kin : K.In base
  glob : base.Ns mainGlobals mg
  blt : ∃ mb, base.Ns builtinsNs mb ∧ ∀ x : Str, x ≠ "__name__" → mb x = bootBuiltins x
  nolimit : base.NoLimit
structure Cx where
  prog : Program
  w : World
  K : PySem.W.Frag
  mg : Str → Option Value
  base : Heap
  A : Around
  N : List Str
  s₀ : Shared
  H₀ : Hp
  env : Env
  outer : List Env
  stack : List Env
  ex : List Addr
  fn : Str → Bool
  calm : Bool
  pn : List (Addr × Obj)
  xe : Value → Shared → Prop
noncomputable def frs (l : List Env) : List Addr := l.filterMap (·.frame)
noncomputable abbrev Cx.fs (X : Cx) : List Addr := frs X.outer
noncomputable def Vis (sc : Scope) (x : Str) : Prop := sc.names.lookup x = some .local ∨ sc.names.lookup x = some .cell ∨ sc.names.lookup x = some .free
noncomputable def Loc (sc : Scope) (x : Str) : Prop := sc.names.lookup x = some .local ∨ sc.names.lookup x = some .cell
noncomputable def Look (env : Env) (h : Heap) (m : Str → Option Value) (x : Str) (u : Value) : Prop :=
  (env.kindOf x = some .local ∧ m x = some u) ∨ ((env.kindOf x = some .cell ∨ env.kindOf x = some .free) ∧ ∃ c, env.cells.lookup x = some c ∧ h.IsCell c (some u))
structure Cx.Ok (X : Cx) : Prop where
  mod : Mod X.K X.mg X.base
  kind : X.env.scope.kind = .function
  glob : X.env.globals = mainGlobals
  blt : X.env.builtins = builtinsNs
  above : X.s₀.heap.objs.size ≤ X.env.locals
  inj : ∀ x y c, X.env.cells.lookup x = some c → X.env.cells.lookup y = some c → x = y
  has : ∀ x, (X.env.kindOf x = some .cell ∨ X.env.kindOf x = some .free) → ∃ c, X.env.cells.lookup x = some c
  cab : ∀ x c, X.fn x = true → X.env.cells.lookup x = some c → X.s₀.heap.objs.size ≤ c
  hd : X.calm = true → X.A.handled = none
  frames : X.A.frames = some X.stack
  stk : X.stack = X.outer ∨ (X.stack = X.env :: X.outer ∧ X.env.frame = some X.env.locals)
  exf : ∀ b ∈ X.ex, b ≠ X.env.locals ∧ ∀ x c, X.env.cells.lookup x = some c → c ≠ b
  bs : ∀ b o, X.base.get? b = some o → X.s₀.heap.get? b = some o ∧ X.H₀ b = none
  bsz : X.base.objs.size ≤ X.s₀.heap.objs.size
  noex : ∀ b o, X.base.get? b = some o → b ∉ X.ex
  exfs : ∀ b ∈ X.ex, b ∉ X.fs
  funs : X.s₀.heap.FunFrames X.base X.outer
  frf : ∀ b ∈ X.fs, X.H₀ b = none
structure Inv (X : Cx) (pins : List (Addr × Obj)) (σ : List (Option V)) (H : Hp) (s : Shared) : Prop where
  ok : X.Ok
  os : s.os = X.s₀.os
  bare : AllBare s.gens
  base : Un X.fs X.ex X.H₀ H X.s₀.heap s.heap
  loc : ∃ m, s.heap.Ns X.env.locals m ∧ ∀ (i : Nat) (x : Str) (v : V), X.N[i]? = some x → σ[i]? = some (some v) → Vis X.env.scope x → ∃ u, RelV v u ∧ Look X.env s.heap m x u
  cell : ∀ x c, X.env.cells.lookup x = some c → ∃ v, s.heap.IsCell c v
  free : H X.env.locals = none
  freeC : ∀ x c, X.env.cells.lookup x = some c → H c = none
  pin : ∀ p ∈ X.pn ++ pins, s.heap.get? p.1 = some p.2 ∧ H p.1 = none ∧ p.1 ≠ X.env.locals ∧ p.1 ∉ X.fs ∧ ∀ v, p.2.data ≠ .cell v
  hok : HOk X.prog X.w H s.heap
  len : σ.length = X.N.length
section
variable {X : Cx} {pins : List (Addr × Obj)} {σ : List (Option V)} {H H' : Hp} {s : Shared} {h' : Heap}
theorem Cx.Ok.nofr (ok : X.Ok) {b : Addr} {o : Obj} (e : X.base.get? b = some o) : b ∉ X.fs := fun hb => by
  have := (ok.funs.mem hb).1
  rw [e] at this; cases this
theorem Inv.bs (I : Inv X pins σ H s) : ∀ b o, X.base.get? b = some o → s.heap.get? b = some o ∧ H b = none := fun b o e =>
  ⟨I.base.keep b o (I.ok.bs b o e).1 (I.ok.bs b o e).2 (I.ok.nofr e) (I.ok.noex b o e), I.base.free b o (I.ok.bs b o e).1 (I.ok.bs b o e).2 (I.ok.noex b o e)⟩
theorem Inv.bk (I : Inv X pins σ H s) : ∀ b o, X.base.get? b = some o → s.heap.get? b = some o := fun b o e => (I.bs b o e).1
theorem Inv.mod (I : Inv X pins σ H s) : Mod X.K X.mg X.base := I.ok.mod
theorem Inv.kIn (I : Inv X pins σ H s) : X.K.In s.heap := I.ok.mod.kin.keeps I.bk
theorem Inv.lt (I : Inv X pins σ H s) : X.env.locals < s.heap.objs.size := let ⟨_, hn, _⟩ := I.loc; hn.lt
theorem Inv.sz (I : Inv X pins σ H s) : X.s₀.heap.objs.size ≤ s.heap.objs.size := Nat.le_trans I.ok.above (Nat.le_of_lt I.lt)
theorem Inv.nofs (I : Inv X pins σ H s) {a : Addr} (h : s.heap.objs.size ≤ a) : a ∉ X.fs := fun hb => by
  obtain ⟨_, o, ho, _⟩ := I.ok.funs.mem hb
  exact absurd (Nat.lt_of_lt_of_le (Heap.lt_size ho) (Nat.le_trans I.sz h)) (Nat.lt_irrefl _)
theorem Inv.cne (I : Inv X pins σ H s) : ∀ x c, X.env.cells.lookup x = some c → c ≠ X.env.locals := fun x c e z => by
  obtain ⟨v, o, ho, hd⟩ := I.cell x c e
  obtain ⟨m, ⟨o', es, ep, ho', hd', _⟩, _⟩ := I.loc
  rw [z, ho'] at ho; cases ho; rw [hd'] at hd; cases hd
theorem Inv.funs (I : Inv X pins σ H s) : s.heap.FunFrames X.base X.outer := by
  have all : ∀ (l : List Env), (∀ b ∈ frs l, b ∈ X.fs) → X.s₀.heap.FunFrames X.base l → s.heap.FunFrames X.base l := by
    intro l
    induction l with
    | nil => intro _ _; trivial
    | cons env r ih =>
      intro hs hl
      obtain ⟨hk, ⟨L, o, hf, hn, ho, hd⟩, hr⟩ := hl
      have hL : L ∈ X.fs := hs L (by unfold frs; rw [List.filterMap_cons, hf]; exact List.mem_cons_self)
      obtain ⟨sl, e⟩ := I.base.slot L o ho (I.ok.frf L hL) hL fun z => I.ok.exfs L z hL
      exact ⟨hk, ⟨L, _, hf, hn, e, hd⟩, ih (fun b hb => hs b (by unfold frs; rw [List.filterMap_cons, hf]; exact List.mem_cons_of_mem _ hb)) hr⟩
  exact all X.outer (fun _ hb => hb) I.ok.funs
theorem Inv.stack (I : Inv X pins σ H s) : s.heap.FunFrames X.base X.stack := by
  rcases I.ok.stk with e | ⟨e, hf⟩
  · rw [e]; exact I.funs
  · rw [e]
    obtain ⟨m, hn, _⟩ := I.loc
    refine .cons (by rw [I.ok.kind]; decide) hf hn ?_ I.funs
    exact Heap.get?_none_of_le (Nat.le_trans I.ok.bsz I.ok.above)
theorem Inv.stkSub (I : Inv X pins σ H s) : ∀ b ∈ frs X.stack, b ∈ X.env.locals :: X.fs := fun b hb => by
  rcases I.ok.stk with e | ⟨e, hf⟩
  · rw [e] at hb; exact List.mem_cons_of_mem _ hb
  · rw [e] at hb
    unfold frs at hb
    rw [List.filterMap_cons, hf] at hb
    exact hb
theorem Inv.stkFree (I : Inv X pins σ H s) : ∀ b ∈ frs X.stack, H b = none := fun b hb => by
  rcases List.mem_cons.mp (I.stkSub b hb) with e | hb
  · rw [e]; exact I.free
  · obtain ⟨_, o, ho, _⟩ := I.ok.funs.mem hb
    exact I.base.free b o ho (I.ok.frf b hb) fun z => I.ok.exfs b z hb
theorem Inv.step {g' : Array GenState} {t' : Nat} {d' : Drawn} {ch : List Addr} (I : Inv X pins σ H s)
    (hch : ∀ b ∈ ch, (b ∈ X.ex ∨ X.s₀.heap.objs.size ≤ b) ∧ b ≠ X.env.locals ∧ (∀ x c, X.env.cells.lookup x = some c → c ≠ b) ∧ ∀ p ∈ X.pn ++ pins, p.1 ≠ b)
    (keep : ∀ b o, b ≠ X.env.locals → b ∉ X.fs → b ∉ ch → s.heap.get? b = some o → H b = none → h'.get? b = some o)
    (slot : ∀ b o, b ≠ X.env.locals → b ∈ X.fs → b ∉ ch → s.heap.get? b = some o → H b = none → ∃ sl, h'.get? b = some { o with slots := sl }) (free : ∀ b o, b ∉ ch → s.heap.get? b = some o → H b = none → H' b = none)
    (there : ∀ b o, b ∉ ch → s.heap.get? b = some o → ∃ o', h'.get? b = some o')
    (tups : ∀ b xs, H b = some (.tup xs) → H' b = some (.tup xs)) (frzs : ∀ b o u, H b = some (.frz o u) → H' b = some (.frz o u)) (tbls : ∀ b ps, H b = some (.tbl ps) → ∃ more, H' b = some (.tbl (ps ++ more)))
    (ns : ∀ m, s.heap.Ns X.env.locals m → h'.Ns X.env.locals m) (hok : HOk X.prog X.w H' h') (hg : AllBare g') :
    Inv X pins σ H' { s with heap := h', gens := g', drawn := d', toks := t' } := by
  have neL : ∀ b o, X.s₀.heap.get? b = some o → b ≠ X.env.locals := fun b o e => Nat.ne_of_lt (Nat.lt_of_lt_of_le (Heap.lt_size e) I.ok.above)
  have neC : ∀ b o, X.s₀.heap.get? b = some o → b ∉ X.ex → b ∉ ch := fun b o e hx hb => by
    rcases (hch b hb).1 with z | z
    · exact hx z
    · exact absurd (Nat.lt_of_lt_of_le (Heap.lt_size e) z) (Nat.lt_irrefl _)
  have cellK : ∀ x c, X.env.cells.lookup x = some c → ∀ v, s.heap.IsCell c v → h'.IsCell c v := fun x c e v ⟨o, ho, hd⟩ => by
    have nch : c ∉ ch := fun z => (hch c z).2.2.1 x c e rfl
    by_cases hc : c ∈ X.fs
    · obtain ⟨sl, q⟩ := slot c o (I.cne x c e) hc nch ho (I.freeC x c e)
      exact ⟨_, q, hd⟩
    · exact ⟨o, keep c o (I.cne x c e) hc nch ho (I.freeC x c e), hd⟩
  refine ⟨I.ok, I.os, hg, ⟨fun b o e n hb hx => ?_, fun b o e n hb hx => ?_, fun b o e n hx => ?_, fun b o e hx => ?_, fun b xs e => tups b xs (I.base.tups b xs e), fun b o xs e => frzs b o xs (I.base.frzs b o xs e), fun b ps e => ?_⟩, ?_, fun x c e => ?_, ?_, fun x c e => ?_, fun p hp => ?_, hok, I.len⟩
  · exact keep b o (neL b o e) hb (neC b o e hx) (I.base.keep b o e n hb hx) (I.base.free b o e n hx)
  · obtain ⟨sl, e1⟩ := I.base.slot b o e n hb hx
    obtain ⟨sl', e2⟩ := slot b _ (neL b o e) hb (neC b o e hx) e1 (I.base.free b o e n hx)
    exact ⟨sl', e2⟩
  · obtain ⟨o', e1⟩ := I.base.there b o e hx
    exact free b o' (neC b o e hx) e1 (I.base.free b o e n hx)
  · obtain ⟨o', e1⟩ := I.base.there b o e hx
    exact there b o' (neC b o e hx) e1
  · obtain ⟨m1, e1⟩ := I.base.tbls b ps e
    obtain ⟨m2, e2⟩ := tbls b _ e1
    exact ⟨m1 ++ m2, by rw [e2, Array.append_assoc]⟩
  · obtain ⟨m, hn, hl⟩ := I.loc
    refine ⟨m, ns m hn, fun i x v e1 e2 e3 => ?_⟩
    obtain ⟨u, r, l⟩ := hl i x v e1 e2 e3
    refine ⟨u, r, ?_⟩
    rcases l with l | ⟨k, c, e, z⟩
    · exact .inl l
    · exact .inr ⟨k, c, e, cellK x c e _ z⟩
  · obtain ⟨v, z⟩ := I.cell x c e
    exact ⟨v, cellK x c e v z⟩
  · obtain ⟨m, ⟨o, _, _, ho, _⟩, _⟩ := I.loc
    exact free _ o (fun z => (hch _ z).2.1 rfl) ho I.free
  · obtain ⟨v, o, ho, hd⟩ := I.cell x c e
    exact free c o (fun z => (hch c z).2.2.1 x c e rfl) ho (I.freeC x c e)
  · obtain ⟨e, n, ne, nf, d⟩ := I.pin p hp
    have nch : p.1 ∉ ch := fun z => (hch p.1 z).2.2.2 p hp rfl
    exact ⟨keep p.1 p.2 ne nf nch e n, free p.1 p.2 nch e n, ne, nf, d⟩
theorem Inv.un {t' : Nat} (I : Inv X pins σ H s) (u : Un X.fs [] H H' s.heap h') (hok : HOk X.prog X.w H' h') : Inv X pins σ H' { s with heap := h', toks := t' } := by
  obtain ⟨m, ⟨o, es, ep, ho, r⟩, _⟩ := id I.loc
  obtain ⟨sl, hL⟩ := u.any ho I.free (by simp)
  exact I.step (g' := s.gens) (d' := s.drawn) (ch := []) (fun _ z => nomatch z) (fun b o _ hb _ e n => u.keep b o e n hb (by simp)) (fun b o _ hb _ e n => u.slot b o e n hb (by simp)) (fun b o _ e n => u.free b o e n (by simp)) (fun b o _ e => u.there b o e (by simp)) u.tups u.frzs u.tbls (fun m' hm => by
    obtain ⟨o', es', ep', ho', r'⟩ := hm
    rw [ho] at ho'; cases ho'
    exact ⟨_, es', ep', hL, r'⟩) hok I.bare
theorem Inv.call {g' : Array GenState} {t' : Nat} {d' : Drawn} {ch : List Addr} (I : Inv X pins σ H s) (u : Un (frs X.stack) ch H H' s.heap h') (hok : HOk X.prog X.w H' h') (hg : AllBare g')
    (hch : ∀ b ∈ ch, (b ∈ X.ex ∨ X.s₀.heap.objs.size ≤ b) ∧ b ≠ X.env.locals ∧ (∀ x c, X.env.cells.lookup x = some c → c ≠ b) ∧ ∀ p ∈ X.pn ++ pins, p.1 ≠ b) :
    Inv X pins σ H' { s with heap := h', gens := g', drawn := d', toks := t' } := by
  obtain ⟨m, ⟨o, es, ep, ho, r⟩, _⟩ := id I.loc
  obtain ⟨sl, hL⟩ := u.any ho I.free fun z => (hch _ z).2.1 rfl
  exact I.step (ch := ch) hch (fun b o hL hb hc e n => u.keep b o e n (fun z => (List.mem_cons.mp (I.stkSub b z)).elim hL hb) hc) (fun b o _ _ hc e n => u.any e n hc) (fun b o hc e n => u.free b o e n hc) (fun b o hc e => u.there b o e hc) u.tups u.frzs u.tbls (fun m' hm => by
    obtain ⟨o', es', ep', ho', r'⟩ := hm
    rw [ho] at ho'; cases ho'
    exact ⟨_, es', ep', hL, r'⟩) hok hg
theorem Inv.turned {t' : Nat} {it : Addr} (I : Inv X pins σ H s) (k : ∀ b o, b ≠ it → s.heap.get? b = some o → h'.get? b = some o) (hn : H it = none) (hL : it ≠ X.env.locals)
    (h1 : it ∈ X.ex ∨ X.s₀.heap.objs.size ≤ it) (h2 : ∀ x c, X.env.cells.lookup x = some c → c ≠ it) (h3 : ∀ p ∈ X.pn ++ pins, p.1 ≠ it) : Inv X pins σ H { s with heap := h', toks := t' } := by
  have nit : ∀ b u, H b = some u → b ≠ it := fun b u e z => by rw [z, hn] at e; cases e
  refine I.step (g' := s.gens) (d' := s.drawn) (ch := [it]) (fun b hb => ?_) (fun b o _ _ hc e _ => k b o (fun z => hc (by simp [z])) e) (fun b o _ _ hc e _ => ⟨o.slots, k b o (fun z => hc (by simp [z])) e⟩) (fun _ _ _ _ n => n)
    (fun b o hc e => ⟨o, k b o (fun z => hc (by simp [z])) e⟩) (fun _ _ e => e) (fun _ _ _ e => e) (fun b ps e => ⟨#[], by rw [e]; simp⟩) (fun m hm => ?_) (fun b u e => ?_) I.bare
  · have e : b = it := by simpa using hb
    subst e
    exact ⟨h1, hL, h2, h3⟩
  · obtain ⟨o, es, ep, ho, r⟩ := hm
    exact ⟨o, es, ep, k _ o (Ne.symm hL) ho, r⟩
  · refine (I.hok b u e).stay (fun c v hc q => k c v ?_ q) (fun _ q => q) fun _ _ q => q
    rcases hc with z | z
    · rw [z]; exact nit b u e
    · exact nit c _ z
theorem Inv.tok (I : Inv X pins σ H s) (t : Nat) : Inv X pins σ H { s with toks := t } := I.un (h' := s.heap) (t' := t) Un.refl I.hok
theorem Inv.kept {t' : Nat} (I : Inv X pins σ H s) (k : ∀ b u, s.heap.get? b = some u → h'.get? b = some u) : Inv X pins σ H { s with heap := h', toks := t' } := I.un (Un.kept k) (I.hok.kept k)
theorem Inv.laid {a : Addr} {o : HO} {t' : Nat} (I : Inv X pins σ H s) (k : ∀ b u, s.heap.get? b = some u → h'.get? b = some u) (hp : s.heap.objs.size ≤ a) (new : ObjOk X.prog X.w (upd H a o) h' a o) :
    Inv X pins σ (upd H a o) { s with heap := h', toks := t' } := I.un (Un.laid k hp (I.hok.fresh hp)) (I.hok.laid k hp new)
theorem Inv.write {x e : Addr} {o : HO} {t' : Nat} (I : Inv X pins σ H s) (mu : Mut (H x)) (he : e = x ∨ H e = some (.own x)) (k : ∀ b u, b ≠ e → s.heap.get? b = some u → h'.get? b = some u) (heo : ∃ u, h'.get? e = some u)
    (new : ObjOk X.prog X.w (upd H x o) h' x o) : Inv X pins σ (upd H x o) { s with heap := h', toks := t' } := I.un (Un.write mu he k heo) (I.hok.write mu he k heo new)
theorem Inv.pins_of {pins' : List (Addr × Obj)} (I : Inv X pins σ H s) (h : ∀ p ∈ pins', s.heap.get? p.1 = some p.2 ∧ H p.1 = none ∧ p.1 ≠ X.env.locals ∧ p.1 ∉ X.fs ∧ ∀ v, p.2.data ≠ .cell v) : Inv X pins' σ H s :=
  ⟨I.ok, I.os, I.bare, I.base, I.loc, I.cell, I.free, I.freeC, fun p hp => (List.mem_append.mp hp).elim (fun z => I.pin p (List.mem_append_left _ z)) (h p), I.hok, I.len⟩
theorem nodup_ix {N : List Str} (hN : N.Nodup) {i j : Nat} {x : Str} (a : N[i]? = some x) (b : N[j]? = some x) : i = j := by
  obtain ⟨h1, e1⟩ := List.getElem?_eq_some_iff.mp a
  obtain ⟨h2, e2⟩ := List.getElem?_eq_some_iff.mp b
  exact (List.getElem_inj hN).mp (e1.trans e2.symm)
theorem store_ok2 {M : Model} {A : Around} {E : Value → Shared → Prop} {i : Nat} {x : Str} {v : V} {u : Value} {Q : Unit → Shared → Prop} (I : Inv X pins σ H s) (hN : X.N.Nodup) (hi : X.N[i]? = some x) (hx : Loc X.env.scope x) (r : RelV v u)
    (h : ∀ s', Inv X pins (σ.set i (some v)) H s' → (∃ a, Heap.SameBut a s.heap s'.heap ∧ (a = X.env.locals ∨ X.env.cells.lookup x = some a)) → Q () s') (hf : X.fn x = true ∨ X.env.scope.names.lookup x = some .local := by first | exact .inl rfl | exact .inr rfl | assumption) : wpAny M A (storeName X.env x u) Q E s := by
  obtain ⟨m, hn, hl⟩ := id I.loc
  have hcls : (X.env.scope.kind == .class || (X.env.scope.kind == .module && X.env.locals != X.env.globals)) = false := by rw [I.ok.kind]; rfl
  have hiσ : i < σ.length := by rw [I.len]; exact (List.getElem?_eq_some_iff.mp hi).1
  have cne := I.cne
  have tracked : ∀ {a : Addr} {h' : Heap}, (∃ o, s.heap.get? a = some o ∧ H a = none) → Heap.SameBut a s.heap h' → HOk X.prog X.w H h' := fun {a h'} ha hs b ob e => by
    obtain ⟨_, _, hfree⟩ := ha
    refine (I.hok b ob e).stay (fun c w' hc q => (hs.2 c ?_).trans q) (fun _ q => q) fun _ _ q => q
    rintro rfl
    rcases hc with rfl | hc
    · rw [hfree] at e; cases e
    · rw [hfree] at hc; cases hc
  rcases hx with hk | hk
  · refine wpAny_storeName_local hk hn (fun h' hn' hs => ?_) hcls
    obtain ⟨oL, _, _, hoL, _⟩ := id hn
    refine h _ ⟨I.ok, I.os, I.bare, ⟨fun b o e n hb hx => ?_, fun b o e n hb hx => ?_, I.base.free, fun b o e hx => ?_, I.base.tups, I.base.frzs, I.base.tbls⟩, ⟨_, hn', fun j y v' e1 e2 e3 => ?_⟩, fun y c e => ?_, I.free, I.freeC, fun p hp => ?_, tracked ⟨oL, hoL, I.free⟩ hs, by simpa using I.len⟩ ⟨_, hs, .inl rfl⟩
    · exact (hs.2 b (Nat.ne_of_lt (Nat.lt_of_lt_of_le (Heap.lt_size e) I.ok.above))).trans (I.base.keep b o e n hb hx)
    · obtain ⟨sl, e1⟩ := I.base.slot b o e n hb hx
      exact ⟨sl, (hs.2 b (Nat.ne_of_lt (Nat.lt_of_lt_of_le (Heap.lt_size e) I.ok.above))).trans e1⟩
    · obtain ⟨o', e1⟩ := I.base.there b o e hx
      exact ⟨o', (hs.2 b (Nat.ne_of_lt (Nat.lt_of_lt_of_le (Heap.lt_size e) I.ok.above))).trans e1⟩
    · by_cases hj : j = i
      · subst hj
        rw [hi] at e1; cases e1
        rw [List.getElem?_set_self hiσ] at e2
        cases e2
        exact ⟨u, r, .inl ⟨hk, by simp⟩⟩
      · rw [List.getElem?_set_ne (Ne.symm hj)] at e2
        obtain ⟨u', r', q⟩ := hl j y v' e1 e2 e3
        refine ⟨u', r', ?_⟩
        rcases q with ⟨k, e⟩ | ⟨k, c, e, z⟩
        · refine .inl ⟨k, ?_⟩
          have : y ≠ x := fun e => hj (nodup_ix hN e1 (e ▸ hi))
          simp [this, e]
        · exact .inr ⟨k, c, e, z.sameBut hs (cne y c e)⟩
    · obtain ⟨w', z⟩ := I.cell y c e
      exact ⟨w', z.sameBut hs (cne y c e)⟩
    · obtain ⟨e, n, ne, nf, d⟩ := I.pin p hp
      exact ⟨(hs.2 p.1 ne).trans e, n, ne, nf, d⟩
  · have hfn : X.fn x = true := by
      rcases hf with z | z
      · exact z
      · rw [z] at hk; cases hk
    obtain ⟨c, hc⟩ := I.ok.has x (.inl hk)
    obtain ⟨w', z⟩ := I.cell x c hc
    refine wpAny_storeName_cell I.ok.kind hk hc z (fun h' hc' hs => ?_)
    obtain ⟨oc, hoc, hocd⟩ := id z
    refine h { s with heap := h' } ⟨I.ok, I.os, I.bare, ⟨fun b o e n hb hx => ?_, fun b o e n hb hx => ?_, I.base.free, fun b o e hx => ?_, I.base.tups, I.base.frzs, I.base.tbls⟩, ⟨m, hn.sameBut hs (Ne.symm (cne x c hc)), fun j y v' e1 e2 e3 => ?_⟩, fun y c' e => ?_, I.free, I.freeC, fun p hp => ?_, tracked ⟨oc, hoc, I.freeC x c hc⟩ hs, by simpa using I.len⟩ ⟨c, hs, .inr hc⟩
    · exact (hs.2 b (Nat.ne_of_lt (Nat.lt_of_lt_of_le (Heap.lt_size e) (I.ok.cab x c hfn hc)))).trans (I.base.keep b o e n hb hx)
    · obtain ⟨sl, e1⟩ := I.base.slot b o e n hb hx
      exact ⟨sl, (hs.2 b (Nat.ne_of_lt (Nat.lt_of_lt_of_le (Heap.lt_size e) (I.ok.cab x c hfn hc)))).trans e1⟩
    · obtain ⟨o', e1⟩ := I.base.there b o e hx
      exact ⟨o', (hs.2 b (Nat.ne_of_lt (Nat.lt_of_lt_of_le (Heap.lt_size e) (I.ok.cab x c hfn hc)))).trans e1⟩
    · by_cases hj : j = i
      · subst hj
        rw [hi] at e1; cases e1
        rw [List.getElem?_set_self hiσ] at e2
        cases e2
        exact ⟨u, r, .inr ⟨.inl hk, c, hc, hc'⟩⟩
      · rw [List.getElem?_set_ne (Ne.symm hj)] at e2
        obtain ⟨u', r', q⟩ := hl j y v' e1 e2 e3
        refine ⟨u', r', ?_⟩
        rcases q with q | ⟨k, c', e, z'⟩
        · exact .inl q
        · refine .inr ⟨k, c', e, z'.sameBut hs ?_⟩
          rintro rfl
          exact hj (nodup_ix hN e1 (I.ok.inj _ _ _ e hc ▸ hi))
    · by_cases hcc : c' = c
      · subst hcc; exact ⟨_, hc'⟩
      · obtain ⟨w2, z2⟩ := I.cell y c' e
        exact ⟨w2, z2.sameBut hs hcc⟩
    · obtain ⟨e, n, ne, nf, d⟩ := I.pin p hp
      refine ⟨(hs.2 p.1 ?_).trans e, n, ne, nf, d⟩
      intro q
      rw [q, hoc] at e
      have q' : oc = p.2 := Option.some.inj e
      exact d w' (by rw [← q']; exact hocd)
theorem store_ok {M : Model} {A : Around} {E : Value → Shared → Prop} {i : Nat} {x : Str} {v : V} {u : Value} {Q : Unit → Shared → Prop} (I : Inv X pins σ H s) (hN : X.N.Nodup) (hi : X.N[i]? = some x) (hx : Loc X.env.scope x) (r : RelV v u)
    (h : ∀ s', Inv X pins (σ.set i (some v)) H s' → Q () s') (hf : X.fn x = true ∨ X.env.scope.names.lookup x = some .local := by first | exact .inl rfl | exact .inr rfl | assumption) : wpAny M A (storeName X.env x u) Q E s :=
  store_ok2 I hN hi hx r (fun s' I' _ => h s' I') hf
end
noncomputable abbrev XK := Value → Option Addr → Hp → Prop
noncomputable abbrev St := List (Option V)
noncomputable abbrev VK := V → Hp → Prop
noncomputable abbrev TE := St → Hp → VK → Prop
noncomputable abbrev TT := St → Hp → (Bool → Hp → Prop) → Prop
noncomputable abbrev TA := St → Hp → (List V → Hp → Prop) → Prop
structure Ends where
  nx : St → Hp → Prop
  rt : VK
  bk : St → Hp → Prop := fun _ _ => False
  ct : St → Hp → Prop := fun _ _ => False
noncomputable abbrev TS := Ends → St → Hp → Prop
noncomputable def EP (X : Cx) (pins : List (Addr × Obj)) (σ : St) (Q : VK) (u : Value) (s' : Shared) : Prop := ∃ v H', Inv X pins σ H' s' ∧ RelV v u ∧ Q v H'
noncomputable def TP (X : Cx) (pins : List (Addr × Obj)) (σ : St) (Q : Bool → Hp → Prop) (b : Bool) (s' : Shared) : Prop := ∃ H', Inv X pins σ H' s' ∧ Q b H'
noncomputable def AP (X : Cx) (pins : List (Addr × Obj)) (σ : St) (Q : List V → Hp → Prop) (us : List Value) (s' : Shared) : Prop := ∃ vs H', Inv X pins σ H' s' ∧ Vals vs us ∧ Q vs H'
noncomputable def SP (X : Cx) (pins : List (Addr × Obj)) (D : Ends) (f : Flow) (s' : Shared) : Prop :=
  match f with
  | .next => ∃ σ' H', Inv X pins σ' H' s' ∧ D.nx σ' H'
  | .brk => ∃ σ' H', Inv X pins σ' H' s' ∧ D.bk σ' H'
  | .cont => ∃ σ' H', Inv X pins σ' H' s' ∧ D.ct σ' H'
  | .ret u => ∃ v σ' H', Inv X pins σ' H' s' ∧ RelV v u ∧ D.rt v H'
noncomputable def PE (X : Cx) (e : Expr) (t : TE) : Prop :=
  ∀ (pins : List (Addr × Obj)) (s : Shared) (σ : St) (H : Hp) (Q : VK), Inv X pins σ H s → t σ H Q → wpAny (model X.prog X.w) X.A (eval e X.env) (EP X pins σ Q) X.xe s
noncomputable def PT (X : Cx) (e : Expr) (t : TT) : Prop :=
  ∀ (pins : List (Addr × Obj)) (s : Shared) (σ : St) (H : Hp) (Q : Bool → Hp → Prop), Inv X pins σ H s → t σ H Q → wpAny (model X.prog X.w) X.A (isTrue e X.env (eval e X.env)) (TP X pins σ Q) X.xe s
noncomputable def PW (X : Cx) (e : Expr) (t : TT) : Prop :=
  ∀ (whole : Sem Value) (pins : List (Addr × Obj)) (s : Shared) (σ : St) (H : Hp) (Q : Bool → Hp → Prop), Inv X pins σ H s → t σ H Q → wpAny (model X.prog X.w) X.A (isTrue e X.env whole) (TP X pins σ Q) X.xe s
theorem PW.pt {X : Cx} {e : Expr} {t : TT} (h : PW X e t) : PT X e t := h _
noncomputable def PA (X : Cx) (es : List Expr) (t : TA) : Prop :=
  ∀ (pos : Pos) (pins : List (Addr × Obj)) (s : Shared) (σ : St) (H : Hp) (Q : List V → Hp → Prop), Inv X pins σ H s → t σ H Q → wpAny (model X.prog X.w) X.A (spliced (backTo pos (starEach es X.env))) (AP X pins σ Q) X.xe s
noncomputable def PS (X : Cx) (st : Stmt) (t : TS) : Prop :=
  ∀ (pins : List (Addr × Obj)) (s : Shared) (σ : St) (H : Hp) (D : Ends), Inv X pins σ H s → t D σ H → wpAny (model X.prog X.w) X.A (exec st X.env) (SP X pins D) X.xe s
noncomputable def PSs (X : Cx) (st : List Stmt) (t : TS) : Prop :=
  ∀ (pins : List (Addr × Obj)) (s : Shared) (σ : St) (H : Hp) (D : Ends), Inv X pins σ H s → t D σ H → wpAny (model X.prog X.w) X.A (execs st X.env) (SP X pins D) X.xe s
theorem thn {α : Type} {t : Sem α} {Q Q' : α → Shared → Prop} {M : Model} {A : Around} {E : Value → Shared → Prop} {s : Shared} (h : wpAny M A t Q E s) (hQ : ∀ a s, Q a s → Q' a s) : wpAny M A t Q' E s := wpAny_mono h hQ fun _ _ x => x
end L2
namespace L2
open PySem PySem.Spec PyProof.Rows
section
variable {X : Cx}
theorem bin {a b : Expr} {ta tb : TE} (ha : PE X a ta) (hb : PE X b tb) {pins : List (Addr × Obj)} {s : Shared} {σ : St} {H : Hp} {R : V → V → Hp → Prop} (I : Inv X pins σ H s) (h : ta σ H fun x H1 => tb σ H1 fun y H2 => R x y H2)
    {α : Type} {Q : α → Shared → Prop} {f : Value → Value → Sem α}
    (hf : ∀ v u s2 x y H2, Inv X pins σ H2 s2 → RelV x v → RelV y u → R x y H2 → wpAny (model X.prog X.w) X.A (f v u) Q X.xe s2) :
    wpAny (model X.prog X.w) X.A (eval a X.env) (fun v s₁ => wpAny (model X.prog X.w) X.A (eval b X.env) (fun u s₂ => wpAny (model X.prog X.w) X.A (f v u) Q X.xe s₂) X.xe s₁) X.xe s := by
  refine thn (ha pins s σ H _ I h) fun v s1 ⟨x, H1, I1, r1, q1⟩ => ?_
  refine thn (hb pins s1 σ H1 _ I1 q1) fun u s2 ⟨y, H2, I2, r2, q2⟩ => ?_
  exact hf v u s2 x y H2 I2 r1 r2 q2
noncomputable def tVar (i : Nat) : TE := fun σ H Q => ∃ v, σ[i]? = some (some v) ∧ Q v H
noncomputable def tC (v : V) : TE := fun _ H Q => Q v H
theorem pe_var {i : Nat} {x : Str} {pos : Pos} (hN : X.N[i]? = some x) (hv : Vis X.env.scope x) (hd : (x == ("__debug__" : Str)) = false := by decide) (hcd : (x == ("__classdict__" : Str)) = false := by decide) : PE X (.Name x pos) (tVar i) := by
  intro pins s σ H Q I h
  obtain ⟨v, e, h⟩ := h
  obtain ⟨m, hn, hl⟩ := I.loc
  obtain ⟨u, r, l⟩ := hl i x v hN e hv
  have fin : EP X pins σ Q u s := ⟨v, H, I, r, h⟩
  rcases l with ⟨hk, hm⟩ | ⟨hk, c, hc, hcell⟩
  · exact wpAny_Name (wpAny_loadName_local I.ok.kind hk hn hm fin) hd
  · rcases hk with hk | hk
    · exact wpAny_Name (wpAny_loadName_cell I.ok.kind hk hc hcell fin) hd
    · exact wpAny_Name (wpAny_loadName_free I.ok.kind hk hc hcell fin hcd) hd
theorem pe_int {i j pos} : PE X (.Constant (.int i) j pos) (tC (.int i)) := fun _ _ _ H _ I h => wpAny_Constant_int ⟨.int i, H, I.tok _, ⟨_, rfl⟩, h⟩
theorem pe_bl {b j pos} : PE X (.Constant (.bool b) j pos) (tC (.bl b)) := fun _ _ _ H _ I h => Constant_bool ⟨.bl b, H, I, rfl, h⟩
theorem pe_str {x j pos} : PE X (.Constant (.str x) j pos) (tC (.str x)) := fun _ _ _ H _ I h => Calls.Constant_str ⟨.str x, H, I.tok _, ⟨_, rfl⟩, h⟩
noncomputable def Gl (X : Cx) (x : Str) : Prop := X.env.kindOf x = some .globalImplicit
theorem ld_glob {E : Value → Shared → Prop} {pins : List (Addr × Obj)} {s : Shared} {σ : St} {H : Hp} {x : Str} {u : Value} {pos : Pos} {Q : Value → Shared → Prop} (I : Inv X pins σ H s) (hg : Gl X x) (hm : X.mg x = some u) (h : Q u s)
    (hd : (x == ("__debug__" : Str)) = false := by decide) : wpAny (model X.prog X.w) X.A (eval (.Name x pos) X.env) Q E s :=
  Calls.Name_function_global I.ok.kind hg (Calls.loadGlobal_global (by rw [I.ok.glob]; exact I.mod.glob.keeps I.bk) hm h) hd
theorem ld_blt {E : Value → Shared → Prop} {pins : List (Addr × Obj)} {s : Shared} {σ : St} {H : Hp} {x : Str} {u : Value} {pos : Pos} {Q : Value → Shared → Prop} (I : Inv X pins σ H s) (hg : Gl X x) (hm : X.mg x = none) (hv : bootBuiltins x = some u) (h : Q u s)
    (hn : x ≠ "__name__" := by decide) (hd : (x == ("__debug__" : Str)) = false := by decide) : wpAny (model X.prog X.w) X.A (eval (.Name x pos) X.env) Q E s := by
  obtain ⟨mb, h1, h2⟩ := I.mod.blt
  exact Calls.Name_function_global I.ok.kind hg (Calls.loadGlobal_builtin (by rw [I.ok.glob]; exact I.mod.glob.keeps I.bk) hm (by rw [I.ok.blt]; exact h1.keeps I.bk) ((h2 x hn).trans hv) h) hd
theorem pe_bltn {x : Str} {v : V} {u : Value} {pos : Pos} (hg : Gl X x) (hm : X.mg x = none) (hv : bootBuiltins x = some u) (r : RelV v u) (hn : x ≠ "__name__" := by decide) (hd : (x == ("__debug__" : Str)) = false := by decide) : PE X (.Name x pos) (tC v) :=
  fun _ _ _ H _ I h => ld_blt I hg hm hv ⟨v, H, I, r, h⟩ hn hd
variable {a b : Expr} {ta tb : TE} {pos : Pos}
variable {tA tB' : TT} {rest : List Expr}
noncomputable def tAnd (t u : TT) : TT := fun σ H Q => t σ H fun c H1 => if c = true then u σ H1 Q else Q false H1
noncomputable def tOr (t u : TT) : TT := fun σ H Q => t σ H fun c H1 => if c = true then Q true H1 else u σ H1 Q
noncomputable def tNot (t : TT) : TT := fun σ H Q => t σ H fun c H1 => Q (!c) H1
theorem pw_and1 (ha : PT X a tA) : PW X (.BoolOp .And [a] pos) tA := by
  intro wh pins s σ H Q I h
  refine isTrue_and (thn (ha pins s σ H Q I h) fun c s1 e => ?_)
  cases c with
  | true => exact isTrue_and_nil e
  | false => exact e
theorem pw_or1 (ha : PT X a tA) : PW X (.BoolOp .Or [a] pos) tA := by
  intro wh pins s σ H Q I h
  refine isTrue_or (thn (ha pins s σ H Q I h) fun c s1 e => ?_)
  cases c with
  | false => exact isTrue_or_nil e
  | true => exact e
theorem pw_and (ha : PT X a tA) (hb : PW X (.BoolOp .And (b :: rest) pos) tB') : PW X (.BoolOp .And (a :: b :: rest) pos) (tAnd tA tB') := by
  intro wh pins s σ H Q I h
  refine isTrue_and (thn (ha pins s σ H _ I h) fun c s1 ⟨H1, I1, q1⟩ => ?_)
  cases c with
  | true => exact hb wh pins s1 σ H1 Q I1 q1
  | false => exact ⟨H1, I1, q1⟩
theorem pw_or (ha : PT X a tA) (hb : PW X (.BoolOp .Or (b :: rest) pos) tB') : PW X (.BoolOp .Or (a :: b :: rest) pos) (tOr tA tB') := by
  intro wh pins s σ H Q I h
  refine isTrue_or (thn (ha pins s σ H _ I h) fun c s1 ⟨H1, I1, q1⟩ => ?_)
  cases c with
  | true => exact ⟨H1, I1, q1⟩
  | false => exact hb wh pins s1 σ H1 Q I1 q1
theorem pt_not (ha : PT X a tA) : PT X (.UnaryOp .Not a pos) (tNot tA) := by
  intro pins s σ H Q I h
  exact isTrue_not (ha pins s σ H (fun c H1 => Q (!c) H1) I h)
noncomputable def tAndV (ta tb : TE) : TE := fun σ H Q => ta σ H fun x H1 => ∃ c, x = .bl c ∧ if c = true then tb σ H1 Q else Q (.bl false) H1
theorem pe_one {op} {t : TE} (h : PE X a t) : PE X (.BoolOp op [a] pos) t := fun pins s σ H Q I hw => BoolOp_one (h pins s σ H Q I hw)
theorem pe_and (ha : PE X a ta) (hb : PE X (.BoolOp .And (b :: rest) pos) tb) : PE X (.BoolOp .And (a :: b :: rest) pos) (tAndV ta tb) := by
  intro pins s σ H Q I h
  refine BoolOp_and (thn (ha pins s σ H _ I h) fun v s1 ⟨x, H1, I1, r1, q1⟩ => ?_)
  obtain ⟨c, rfl, q1⟩ := q1
  cases r1
  refine wpAny_truthy_bool ?_
  cases c with
  | true => exact hb pins s1 σ H1 Q I1 q1
  | false => exact ⟨.bl false, H1, I1, rfl, q1⟩
end
end L2
namespace L2
open PySem PySem.Spec PyProof.Rows
noncomputable def SqL (K : PySem.W.Frag) (H : Hp) (a : Addr) (xs : List V) : Prop :=
  Rd H a (.lst xs) ∨
    ∃ (o : Obj) (its : Array Value) (n : Nat), K.lookup a = some o ∧ o.cls = .type "list" ∧ o.dict = none ∧ o.data = .seq its n ∧ its.size ≤ sizeLine ∧ Vals xs its.toList
noncomputable def SqT (K : PySem.W.Frag) (H : Hp) (a : Addr) (xs : List V) : Prop :=
  Rd H a (.tup xs) ∨
    ∃ (o : Obj) (its : Array Value) (n : Nat), K.lookup a = some o ∧ o.cls = .type "tuple" ∧ o.dict = none ∧ o.data = .seq its n ∧ its.size ≤ sizeLine ∧ Vals xs its.toList
noncomputable def absV : Value → Option V
  | .none => some .non
  | .bool b => some (.bl b)
  | .int i _ => some (.int i)
  | .str x _ => some (.str x)
  | .bytes b _ => some (.byt b)
  | .float b _ => some (.flt b)
  | .ref a => some (.ref a)
  | .type n => some (.ty n)
  | _ => none
theorem RelV.abs {x : V} {u : Value} (r : RelV x u) : absV u = some x := by
  cases x with
  | non => cases r; rfl
  | bl _ => cases r; rfl
  | int _ => obtain ⟨t, rfl⟩ := r; rfl
  | str _ => obtain ⟨t, rfl⟩ := r; rfl
  | byt _ => obtain ⟨t, rfl⟩ := r; rfl
  | flt _ => obtain ⟨t, rfl⟩ := r; rfl
  | ref _ => cases r; rfl
  | ty _ => cases r; rfl
theorem RelV.inj {x y : V} {u : Value} (r : RelV x u) (q : RelV y u) : x = y := Option.some.inj (r.abs.symm.trans q.abs)
theorem Vals.inj : ∀ {xs ys : List V} {us : List Value}, Vals xs us → Vals ys us → xs = ys
  | _, _, _, .nil, .nil => rfl
  | _, _, _, .cons r t, .cons r' t' => by rw [r.inj r', Vals.inj t t']
section
variable {X : Cx} {pins : List (Addr × Obj)} {σ : St} {H : Hp} {s : Shared} {a : Addr} {xs ys : List V}
theorem SqL.of {K : PySem.W.Frag} (h : H a = some (.lst xs)) : SqL K H a xs := .inl (.inl h)
theorem SqT.of {K : PySem.W.Frag} (h : H a = some (.tup xs)) : SqT K H a xs := .inl (.inl h)
theorem Inv.list (I : Inv X pins σ H s) (h : SqL X.K H a xs) : ∃ its : List Value, Vals xs its ∧ PlainL s.heap a its.toArray ∧ xs.length ≤ sizeLine := by
  rcases h with h | ⟨o, its, n, hk, hc, hd, hs, hz, r⟩
  · obtain ⟨z, its, n, r, e⟩ := h.ok I.hok
    exact ⟨its, r, ⟨_, n, e, rfl, rfl, rfl⟩, z⟩
  · refine ⟨its.toList, r, ⟨o, n, I.kIn a o hk, hc, hd, by simpa using hs⟩, ?_⟩
    have e := r.length
    simp only [Array.length_toList] at e
    omega
theorem Inv.tuple (I : Inv X pins σ H s) (h : SqT X.K H a xs) : ∃ its : List Value, Vals xs its ∧ IsTup s.heap a its.toArray ∧ xs.length ≤ sizeLine := by
  rcases h with h | ⟨o, its, n, hk, hc, _, hs, hz, r⟩
  · obtain ⟨z, its, r, p⟩ := h.ok I.hok
    exact ⟨its, r, p.1, z⟩
  · refine ⟨its.toList, r, ⟨o, I.kIn a o hk, hc, n, by simpa using hs⟩, ?_⟩
    have e := r.length
    simp only [Array.length_toList] at e
    omega
theorem Inv.list_inj (I : Inv X pins σ H s) (h : SqL X.K H a xs) (h' : SqL X.K H a ys) : xs = ys := by
  obtain ⟨its, r, ⟨o, n, e, _, _, d⟩, _⟩ := I.list h
  obtain ⟨its', r', ⟨o', n', e', _, _, d'⟩, _⟩ := I.list h'
  rw [e] at e'; cases e'
  rw [d] at d'
  injection d' with d1 _
  have : its = its' := by simpa using congrArg Array.toList d1
  subst this
  exact r.inj r'
theorem Inv.tuple_inj (I : Inv X pins σ H s) (h : SqT X.K H a xs) (h' : SqT X.K H a ys) : xs = ys := by
  obtain ⟨its, r, ⟨o, e, _, n, d⟩, _⟩ := I.tuple h
  obtain ⟨its', r', ⟨o', e', _, n', d'⟩, _⟩ := I.tuple h'
  rw [e] at e'; cases e'
  rw [d] at d'
  injection d' with d1 _
  have : its = its' := by simpa using congrArg Array.toList d1
  subst this
  exact r.inj r'
end
noncomputable abbrev Cx.wish (X : Cx) (E : Value → Shared → Prop) : Cx := { X with xe := E }
noncomputable abbrev Cx.nox (X : Cx) : Cx := X.wish fun _ _ => False
theorem Cx.Ok.wish {X : Cx} (ok : X.Ok) (E : Value → Shared → Prop) : (X.wish E).Ok :=
  ⟨ok.mod, ok.kind, ok.glob, ok.blt, ok.above, ok.inj, ok.has, ok.cab, ok.hd, ok.frames, ok.stk, ok.exf, ok.bs, ok.bsz, ok.noex, ok.exfs, ok.funs, ok.frf⟩
theorem Cx.Ok.unwish {X : Cx} {E : Value → Shared → Prop} (ok : (X.wish E).Ok) : X.Ok :=
  ⟨ok.mod, ok.kind, ok.glob, ok.blt, ok.above, ok.inj, ok.has, ok.cab, ok.hd, ok.frames, ok.stk, ok.exf, ok.bs, ok.bsz, ok.noex, ok.exfs, ok.funs, ok.frf⟩
section
variable {X : Cx} {pins : List (Addr × Obj)} {σ : St} {H : Hp} {s : Shared} {E : Value → Shared → Prop}
theorem Inv.wish (I : Inv X pins σ H s) (E : Value → Shared → Prop) : Inv (X.wish E) pins σ H s := ⟨I.ok.wish E, I.os, I.bare, I.base, I.loc, I.cell, I.free, I.freeC, I.pin, I.hok, I.len⟩
theorem Inv.unwish (I : Inv (X.wish E) pins σ H s) : Inv X pins σ H s := ⟨I.ok.unwish, I.os, I.bare, I.base, I.loc, I.cell, I.free, I.freeC, I.pin, I.hok, I.len⟩
theorem SP.unwish {D : Ends} {f : Flow} {s' : Shared} (h : SP (X.wish E) pins D f s') : SP X pins D f s' := by
  cases f with
  | next => obtain ⟨σ', H', I, q⟩ := h; exact ⟨σ', H', I.unwish, q⟩
  | brk => obtain ⟨σ', H', I, q⟩ := h; exact ⟨σ', H', I.unwish, q⟩
  | cont => obtain ⟨σ', H', I, q⟩ := h; exact ⟨σ', H', I.unwish, q⟩
  | ret u => obtain ⟨v, σ', H', I, r, q⟩ := h; exact ⟨v, σ', H', I.unwish, r, q⟩
theorem PSs.nox {st : List Stmt} {t : TS} (h : PSs X.nox st t) : PSs X st t := fun pins s σ H D I hw =>
  wpAny_mono (h pins s σ H D (I.wish _) hw) (fun _ _ q => q.unwish) fun _ _ z => False.elim z
end
section
variable {X : Cx} {st : Stmt} {rest : List Stmt} {t u : TS} {e : Expr} {te : TE} {pos : Pos}
noncomputable def tNext : TS := fun D σ H => D.nx σ H
noncomputable def tSeq (t u : TS) : TS := fun D σ H => t { D with nx := u D } σ H
theorem pss_nil : PSs X [] tNext := fun _ _ σ H _ I h => wpAny_execs_nil ⟨σ, H, I, h⟩
theorem pss_cons (h1 : PS X st t) (h2 : PSs X rest u) : PSs X (st :: rest) (tSeq t u) := by
  intro pins s σ H D I h
  refine wpAny_execs_cons (thn (h1 pins s σ H { D with nx := u D } I h) fun f s1 q => ?_)
  cases f with
  | next =>
    obtain ⟨σ', H', I', q⟩ := q
    exact h2 pins s1 σ' H' D I' q
  | ret v => exact q
  | brk => exact q
  | cont => exact q
theorem Inv.quiet {pins : List (Addr × Obj)} {σ : St} {H : Hp} {s : Shared} (I : Inv X pins σ H s) : interactive X.env = false := by simp [interactive, I.ok.kind]
noncomputable def tDrop (te : TE) : TS := fun D σ H => te σ H fun _ H1 => D.nx σ H1
theorem ps_expr (he : PE X e te) (hs : swapsWith e none pos.line X.env = pure false := by rfl) : PS X (.Expr e pos) (tDrop te) := by
  intro pins s σ H D I h
  exact wpAny_Expr_any (thn (he pins s σ H _ I h) fun v s1 ⟨x, H1, I1, r1, q1⟩ => ⟨σ, H1, I1, q1⟩) I.quiet hs
noncomputable def tRet (te : TE) : TS := fun D σ H => te σ H D.rt
theorem ps_ret (he : PE X e te) : PS X (.Return (some e) pos) (tRet te) := by
  intro pins s σ H D I h
  exact wpAny_Return_some (thn (he pins s σ H _ I h) fun v s1 ⟨x, H1, I1, r1, q1⟩ => ⟨x, σ, H1, I1, r1, q1⟩)
noncomputable def tIfS (c : TT) (t u : TS) : TS := fun D σ H => c σ H fun b H1 => if b = true then t D σ H1 else u D σ H1
theorem ps_if {c : Expr} {a b : List Stmt} {tc : TT} (hc : PT X c tc) (ha : PSs X a t) (hb : PSs X b u) : PS X (.If c a b pos) (tIfS tc t u) := by
  intro pins s σ H D I h
  refine wpAny_If (thn (hc pins s σ H _ I h) fun d s1 ⟨H1, I1, q1⟩ => ?_)
  cases d with
  | true => exact ha pins s1 σ H1 D I1 q1
  | false => exact hb pins s1 σ H1 D I1 q1
end
noncomputable abbrev TG := V → St → Hp → (St → Hp → Prop) → Prop
noncomputable abbrev TGs := List V → St → Hp → (St → Hp → Prop) → Prop
noncomputable def PG (X : Cx) (target : Expr) (t : TG) : Prop :=
  ∀ (pins : List (Addr × Obj)) (s : Shared) (σ : St) (H : Hp) (v : V) (u : Value) (Q : St → Hp → Prop), Inv X pins σ H s → RelV v u → t v σ H Q →
    wpAny (model X.prog X.w) X.A (assign target X.env u) (fun _ s' => ∃ σ' H', Inv X pins σ' H' s' ∧ Q σ' H') X.xe s
noncomputable def PGs (X : Cx) (ts : List Expr) (t : TGs) : Prop :=
  ∀ (pins : List (Addr × Obj)) (s : Shared) (σ : St) (H : Hp) (vs : List V) (us : List Value) (Q : St → Hp → Prop), Inv X pins σ H s → Vals vs us → t vs σ H Q →
    wpAny (model X.prog X.w) X.A (assignInOrder ((assignEach ts X.env).map (·.2)) us) (fun _ s' => ∃ σ' H', Inv X pins σ' H' s' ∧ Q σ' H') X.xe s
section
variable {X : Cx} {pos : Pos}
noncomputable def gName (i : Nat) : TG := fun v σ H Q => Q (σ.set i (some v)) H
theorem pg_name {i : Nat} {x : Str} (hN : X.N.Nodup) (hi : X.N[i]? = some x) (hx : Loc X.env.scope x) (hf : X.fn x = true ∨ X.env.scope.names.lookup x = some .local := by first | exact .inl rfl | exact .inr rfl | assumption) : PG X (.Name x pos) (gName i) := by
  intro pins s σ H v u Q I r h
  exact wpAny_assign_Name (store_ok I hN hi hx r (fun s' I' => ⟨_, H, I', h⟩) hf)
noncomputable def gNil : TGs := fun vs σ H Q => vs = [] ∧ Q σ H
noncomputable def gCons (t : TG) (u : TGs) : TGs := fun vs σ H Q => ∃ v r, vs = v :: r ∧ t v σ H fun σ' H' => u r σ' H' Q
theorem pgs_nil : PGs X [] gNil := by
  intro pins s σ H vs us Q I r h
  obtain ⟨e, h⟩ := h
  subst e
  cases r
  exact assignInOrder_nil ⟨σ, H, I, h⟩
theorem pgs_cons {e : Expr} {es : List Expr} {t : TG} {u : TGs} (h1 : PG X e t) (h2 : PGs X es u)
    (hs : (assignEach (e :: es) X.env).map (·.2) = assign e X.env :: (assignEach es X.env).map (·.2) := by rfl) : PGs X (e :: es) (gCons t u) := by
  intro pins s σ H vs us Q I r h
  obtain ⟨v, vr, e1, h⟩ := h
  subst e1
  cases r with
  | cons r rr =>
    rw [hs]
    refine assignInOrder_cons (thn (h1 pins s σ H _ _ _ I r h) fun _ s1 ⟨σ1, H1, I1, q1⟩ => ?_)
    exact h2 pins s1 σ1 H1 _ _ Q I1 rr q1
noncomputable def gTup (K : PySem.W.Frag) (n : Nat) (t : TGs) : TG := fun v σ H Q => ∃ a xs, v = .ref a ∧ SqT K H a xs ∧ xs.length = n ∧ t xs σ H Q
theorem pg_tup {es : List Expr} {k : Nat} {t : TGs} {n : Nat} (hc : X.calm = true) (h : PGs X es t)
    (hn : (assignEach es X.env).length = n := by rfl) (hst : (assignEach es X.env).findIdx? (·.1) = none := by rfl) : PG X (.Tuple es k pos) (gTup X.K n t) := by
  intro pins s σ H v u Q I r hw
  obtain ⟨a, xs, e1, hq, hl, hw⟩ := hw
  subst e1
  cases r
  obtain ⟨its, rv, ht, hz⟩ := I.tuple hq
  refine assign_Tuple_tuple (I.ok.hd hc) ht (by simp [hn, ← hl, rv.length]) hst fun h' hx => ?_
  have I1 : Inv X pins σ H { s with heap := h' } := I.kept (t' := s.toks) fun b o e => hx b o (Nat.ne_of_lt (Heap.lt_size e)) e
  exact h pins _ σ H xs _ Q I1 (by simpa using rv) hw
noncomputable def tAsg (te : TE) (g : TG) : TS := fun D σ H => te σ H fun x H1 => g x σ H1 D.nx
theorem ps_set {i : Nat} {x : Str} {e : Expr} {te : TE} {pos' : Pos} (hN : X.N.Nodup) (hi : X.N[i]? = some x) (hx : Loc X.env.scope x) (he : PE X e te) (hs : swapsWith e (some (.Name x pos')) pos.line X.env = pure false := by rfl) (hf : X.fn x = true ∨ X.env.scope.names.lookup x = some .local := by first | exact .inl rfl | exact .inr rfl | assumption) :
    PS X (.Assign [.Name x pos'] e pos) (tAsg te (gName i)) := by
  intro pins s σ H D I h
  refine wpAny_Assign_Name (thn (he pins s σ H _ I h) fun v s1 ⟨y, H1, I1, r1, q1⟩ => ?_) hs
  exact store_ok I1 hN hi hx r1 (fun s2 I2 => ⟨_, H1, I2, q1⟩) hf
end
section
variable {X : Cx} {pos : Pos}
end
structure It where
  go : Nat → Hp → Prop
  yld : Nat → Hp → V → Hp → Prop
  stop : Nat → Hp → Prop
noncomputable def FpOk (X : Cx) (pins : List (Addr × Obj)) (H : Hp) (b : Addr) : Prop :=
  H b = none ∧ b ≠ X.env.locals ∧ b ∉ X.fs ∧ (b ∈ X.ex ∨ X.s₀.heap.objs.size ≤ b) ∧ (∀ x c, X.env.cells.lookup x = some c → c ≠ b) ∧ ∀ p ∈ X.pn ++ pins, p.1 ≠ b
theorem Inv.fpOk {X : Cx} {pins : List (Addr × Obj)} {σ : St} {H H' : Hp} {s : Shared} {b : Addr} (I : Inv X pins σ H s) (hb : s.heap.objs.size ≤ b) (hn : H' b = none) : FpOk X pins H' b := by
  refine ⟨hn, Nat.ne_of_gt (Nat.lt_of_lt_of_le I.lt hb), I.nofs hb, .inr (Nat.le_trans I.sz hb), fun x c e z => ?_, fun p hp z => ?_⟩
  · obtain ⟨v, q⟩ := I.cell x c e
    exact absurd (Nat.lt_of_lt_of_le q.lt (by rw [z]; exact hb)) (Nat.lt_irrefl _)
  · exact absurd (Nat.lt_of_lt_of_le (Heap.lt_size (I.pin p hp).1) (by rw [z]; exact hb)) (Nat.lt_irrefl _)
structure Turn (P : Program) (w : World) (K : PySem.W.Frag) (tg : Expr) (J : It) (fp : List Addr) (it : Addr) (tn : Nat → Heap → Prop) : Prop where
  mem : it ∈ fp
  obj : ∀ i h, tn i h → ∀ b ∈ fp, ∃ o, h.get? b = some o ∧ ∀ v, o.data ≠ .cell v
  keep : ∀ i h h', tn i h → (∀ b ∈ fp, ∀ o, h.get? b = some o → h'.get? b = some o) → tn i h'
  item : ∀ (X : Cx), X.prog = P → X.w = w → X.K = K → X.calm = true → ∀ (i : Nat) (pins : List (Addr × Obj)) (s : Shared) (σ : St) (H : Hp) (E : Value → Shared → Prop), Inv X pins σ H s → (∀ b ∈ fp, FpOk X pins H b) → tn i s.heap → J.go i H →
    wpAny (model P w) X.A (pyNext (.ref it)) (fun r s1 => ∃ u, r = some u ∧
      wpAny (model P w) X.A (letOwnedTupleGo tg (.ref it) u) (fun _ s2 => ∃ x H', Inv X pins σ H' s2 ∧ RelV x u ∧ J.yld i H x H' ∧ tn (i + 1) s2.heap ∧ ∀ b ∈ fp, H' b = none) E s1) E s
  done : ∀ (X : Cx), X.prog = P → X.w = w → X.K = K → X.calm = true → ∀ (i : Nat) (pins : List (Addr × Obj)) (s : Shared) (σ : St) (H : Hp) (E : Value → Shared → Prop), Inv X pins σ H s → (∀ b ∈ fp, FpOk X pins H b) → tn i s.heap → J.stop i H →
    wpAny (model P w) X.A (pyNext (.ref it)) (fun r s1 => r = none ∧ Inv X pins σ H s1) E s
  self : ∀ (A : Around) (i : Nat) (s : Shared) (Q : Value → Shared → Prop) (E : Value → Shared → Prop), tn i s.heap → Q (.ref it) s → wpAny (model P w) A (pyIter (.ref it)) Q E s
noncomputable abbrev TI := St → Hp → (It → Hp → Prop) → Prop
noncomputable def PIE (X : Cx) (pins : List (Addr × Obj)) (σ : St) (tg : Expr) (R : It → Hp → Prop) (itv : Value) (s2 : Shared) : Prop :=
  ∃ (it : Addr) (fp : List Addr) (tn : Nat → Heap → Prop) (J : It) (H' : Hp), itv = .ref it ∧ Inv X pins σ H' s2 ∧ Turn X.prog X.w X.K tg J fp it tn ∧ tn 0 s2.heap ∧ (∀ b ∈ fp, FpOk X pins H' b) ∧ R J H'
noncomputable def PI (X : Cx) (tg iter : Expr) (wi : TI) : Prop :=
  ∀ (pins : List (Addr × Obj)) (s : Shared) (σ : St) (H : Hp) (R : It → Hp → Prop), Inv X pins σ H s → wi σ H R →
    wpAny (model X.prog X.w) X.A (eval iter X.env) (fun v s1 => wpAny (model X.prog X.w) X.A (pyIter v) (PIE X pins σ tg R) X.xe s1) X.xe s
theorem go_of {M : Model} {A : Around} {E : Value → Shared → Prop} {s : Shared} {tg : Expr} {it : Addr} {u : Value} {o : Obj} {n : String} {vs : Array Value} {Q : Unit → Shared → Prop} (ho : s.heap.get? it = some o) (hc : o.cls = .type n) (hd : o.data = .fields vs)
    (hn : ["enumerate", "zip", "dict_itemiterator", "dict_reverseitemiterator", "odict_iterator", "itertools.zip_longest", "itertools.pairwise"].contains n = false) (hQ : Q () s) : wpAny M A (letOwnedTupleGo tg (.ref it) u) Q E s := by
  unfold letOwnedTupleGo
  cases tg <;> first
    | exact wpAny_pure hQ
    | (cases u <;> first
        | exact wpAny_pure hQ
        | (refine wpAny_bind (wpAny_load ho ?_)
           rw [hc, hd]
           show wpAny M A (if (["enumerate", "zip", "dict_itemiterator", "dict_reverseitemiterator", "odict_iterator", "itertools.zip_longest", "itertools.pairwise"].contains n && vs[0]? == some (rawInt _)) = true then _ else _) Q E s
           rw [if_neg (by intro h; rw [hn, Bool.false_and] at h; cases h)]
           exact wpAny_pure hQ))
noncomputable def Itl (K : PySem.W.Frag) (a : Addr) : It :=
  ⟨fun i H => ∃ xs x, SqL K H a xs ∧ xs[i]? = some x, fun i H x H' => H' = H ∧ ∀ xs, SqL K H a xs → xs[i]? = some x, fun i H => ∃ xs, SqL K H a xs ∧ xs.length ≤ i⟩
noncomputable def Itt (K : PySem.W.Frag) (a : Addr) : It :=
  ⟨fun i H => ∃ xs x, SqT K H a xs ∧ xs[i]? = some x, fun i H x H' => H' = H ∧ ∀ xs, SqT K H a xs → xs[i]? = some x, fun i H => ∃ xs, SqT K H a xs ∧ xs.length ≤ i⟩
noncomputable def Itr (lo : Int) (n : Nat) : It := ⟨fun i _ => i < n, fun i H x H' => H' = H ∧ x = .int (lo + i), fun i _ => n ≤ i⟩
theorem turn_list {P : Program} {w : World} {K : PySem.W.Frag} {tg : Expr} (a it : Addr) : Turn P w K tg (Itl K a) [it] it (fun i h => h.IsListIter it a i) where
  mem := by simp
  obj := fun i h st b hb => by
    have e : b = it := by simpa using hb
    subst e
    obtain ⟨o, e, c, d⟩ := st
    exact ⟨o, e, fun v z => by rw [d] at z; cases z⟩
  keep := fun i h h' st k => st.at fun o e => k it (by simp) o e
  item := by
    intro X hP hw hK hc i pins s σ H E I hf st hg
    subst hP hw hK
    obtain ⟨xs, x, hq, hx⟩ := hg
    obtain ⟨its, rv, p, hz⟩ := I.list hq
    obtain ⟨u, hu, ru⟩ := rv.get hx
    obtain ⟨f0, f1, f2, f3, f4, f5⟩ := hf it (by simp)
    refine wpAny_pyNext_list_item st p.isList (x := u) (by simpa using hu) fun h' st' sb => ?_
    have I1 : Inv X pins σ H { s with heap := h' } := I.turned (t' := s.toks) (fun b o hb e => (sb.2 b hb).trans e) f0 f1 f3 f4 f5
    obtain ⟨o, e, c, d⟩ := id st'
    exact ⟨u, rfl, go_of (s := { s with heap := h' }) e c d (by decide) ⟨x, H, I1, ru, ⟨rfl, fun ys hy => by rw [I.list_inj hy hq]; exact hx⟩, st', fun b hb => (hf b hb).1⟩⟩
  done := by
    intro X hP hw hK hc i pins s σ H E I hf st hg
    subst hP hw hK
    obtain ⟨xs, hq, hx⟩ := hg
    obtain ⟨its, rv, p, hz⟩ := I.list hq
    obtain ⟨f0, f1, f2, f3, f4, f5⟩ := hf it (by simp)
    have hl := rv.length
    exact wpAny_pyNext_list_end (I.ok.hd hc) st p.isList (by simp; omega) fun h' eb => ⟨rfl, I.turned (t' := s.toks) (fun b o hb e => eb b o hb e) f0 f1 f3 f4 f5⟩
  self := fun _ _ _ _ _ st h => wpAny_pyIter_listiter st h
theorem turn_tuple {P : Program} {w : World} {K : PySem.W.Frag} {tg : Expr} (a it : Addr) : Turn P w K tg (Itt K a) [it] it (fun i h => h.IsTupleIter it a i) where
  mem := by simp
  obj := fun i h st b hb => by
    have e : b = it := by simpa using hb
    subst e
    obtain ⟨o, e, c, d⟩ := st
    exact ⟨o, e, fun v z => by rw [d] at z; cases z⟩
  keep := fun i h h' st k => st.at fun o e => k it (by simp) o e
  item := by
    intro X hP hw hK hc i pins s σ H E I hf st hg
    subst hP hw hK
    obtain ⟨xs, x, hq, hx⟩ := hg
    obtain ⟨its, rv, p, hz⟩ := I.tuple hq
    obtain ⟨u, hu, ru⟩ := rv.get hx
    obtain ⟨f0, f1, f2, f3, f4, f5⟩ := hf it (by simp)
    refine wpAny_pyNext_tuple_item st (show s.heap.IsTuple a its.toArray from p) (x := u) (by simpa using hu) fun h' st' sb => ?_
    have I1 : Inv X pins σ H { s with heap := h' } := I.turned (t' := s.toks) (fun b o hb e => (sb.2 b hb).trans e) f0 f1 f3 f4 f5
    obtain ⟨o, e, c, d⟩ := id st'
    exact ⟨u, rfl, go_of (s := { s with heap := h' }) e c d (by decide) ⟨x, H, I1, ru, ⟨rfl, fun ys hy => by rw [I.tuple_inj hy hq]; exact hx⟩, st', fun b hb => (hf b hb).1⟩⟩
  done := by
    intro X hP hw hK hc i pins s σ H E I hf st hg
    subst hP hw hK
    obtain ⟨xs, hq, hx⟩ := hg
    obtain ⟨its, rv, p, hz⟩ := I.tuple hq
    obtain ⟨f0, f1, f2, f3, f4, f5⟩ := hf it (by simp)
    have hl := rv.length
    exact wpAny_pyNext_tuple_end (I.ok.hd hc) st (show s.heap.IsTuple a its.toArray from p) (by simp; omega) fun h' eb => ⟨rfl, I.turned (t' := s.toks) (fun b o hb e => eb b o hb e) f0 f1 f3 f4 f5⟩
  self := fun _ _ _ _ _ st h => wpAny_pyIter_tupleiter st h
theorem turn_range {P : Program} {w : World} {K : PySem.W.Frag} {tg : Expr} (it : Addr) (lo : Int) (n : Nat) : Turn P w K tg (Itr lo n) [it] it (fun i h => IsRangeIter h it (lo + (i : Nat) * 1) ((n : Int) - (i : Nat)) 1) where
  mem := by simp
  obj := fun i h st b hb => by
    have e : b = it := by simpa using hb
    subst e
    exact ⟨_, st, fun v z => by
      have z' : Data.fields _ = Data.cell v := z
      cases z'⟩
  keep := fun i h h' st k => k it (by simp) _ st
  item := by
    intro X hP hw hK hc i pins s σ H E I hf st hg
    subst hP hw hK
    obtain ⟨f0, f1, f2, f3, f4, f5⟩ := hf it (by simp)
    have W := Walks.range (prog := X.prog) (w := X.w) (I.ok.hd hc) it lo 1 n
    refine W.item i s _ _ hg st fun v h' tk hv st' kk => ?_
    obtain ⟨t, rfl⟩ := hv
    have I1 : Inv X pins σ H { s with heap := h', toks := tk } := I.turned (fun b o hb e => kk b o (by simpa using hb) e) f0 f1 f3 f4 f5
    refine ⟨_, rfl, go_of (s := { s with heap := h', toks := tk }) (n := "range_iterator") st' rfl rfl (by decide) ⟨.int (lo + i), H, I1, ⟨t, ?_⟩, ⟨rfl, rfl⟩, st', fun b hb => (hf b hb).1⟩⟩
    rw [Int.mul_one]
  done := by
    intro X hP hw hK hc i pins s σ H E I hf st hg
    subst hP hw hK
    obtain ⟨f0, f1, f2, f3, f4, f5⟩ := hf it (by simp)
    exact wpAny_pyNext_range_end (I.ok.hd hc) st (by have : n ≤ i := hg; omega) fun h' eb => ⟨rfl, I.turned (t' := s.toks) (fun b o hb e => eb b o hb e) f0 f1 f3 f4 f5⟩
  self := fun _ _ _ _ _ st h => wpAny_pyIter_rangeiter st h
end L2
namespace L2
open PySem PySem.Spec PyProof.Rows
section
variable {X : Cx} {tg : Expr}
theorem range_it {pins : List (Addr × Obj)} {σ : St} {H : Hp} {s : Shared} {R : It → Hp → Prop} {E : Value → Shared → Prop} {lo hi : Int} {t u v : Tok} {tk : Nat} (I : Inv X pins σ H s) (h1 : -(2 ^ 62) ≤ lo) (h2 : lo < 2 ^ 62) (h3 : -(2 ^ 62) ≤ hi) (h4 : hi < 2 ^ 62)
    (q : R (Itr lo (hi - lo).toNat) H) : wpAny (model X.prog X.w) X.A (pyIter (.ref s.heap.objs.size)) (PIE X pins σ tg R) E { s with heap := s.heap.push { cls := .type "range", data := .fields #[.int lo t, .int hi u, .int 1 v] }, toks := tk } := by
  refine wpAny_pyIter_range (IsRange.new ..) (small_one h1 h2 h3 h4) ?_
  have I1 : Inv X pins σ H { s with heap := s.heap.push { cls := .type "range", data := .fields #[.int lo t, .int hi u, .int 1 v] }, toks := tk } := I.kept fun b o e => Heap.get?_push_of_some _ e
  refine ⟨(s.heap.push { cls := .type "range", data := .fields #[.int lo t, .int hi u, .int 1 v] }).objs.size, [(s.heap.push { cls := .type "range", data := .fields #[.int lo t, .int hi u, .int 1 v] }).objs.size], _, _, H, rfl,
    I1.kept (t' := tk) fun b o e => Heap.get?_push_of_some _ e, turn_range _ lo (hi - lo).toNat, ?_, fun b hb => ?_, q⟩
  · have e1 : lo + ((0 : Nat) : Int) * 1 = lo := by simp
    have e2 : (((hi - lo).toNat : Nat) : Int) - ((0 : Nat) : Int) = Builtin.Range.rangeSize lo hi 1 := by rw [rangeSize_one]; split <;> omega
    show IsRangeIter _ _ (lo + ((0 : Nat) : Int) * 1) ((((hi - lo).toNat : Nat) : Int) - ((0 : Nat) : Int)) 1
    rw [e1, e2]
    exact Heap.get?_push_size _ rfl
  · have e : b = (s.heap.push { cls := .type "range", data := .fields #[.int lo t, .int hi u, .int 1 v] }).objs.size := by simpa using hb
    subst e
    exact I1.fpOk (Nat.le_refl _) (I1.hok.fresh (Nat.le_refl _))
noncomputable def iRng1 (ta : TA) : TI := fun σ H R => ta σ H fun vs H1 => ∃ j : Int, vs = [.int j] ∧ -(2 ^ 62) ≤ j ∧ j < 2 ^ 62 ∧ R (Itr 0 j.toNat) H1
theorem pi_range1 {a : Expr} {ta : TA} {p pos : Pos} (hg : Gl X "range") (hm : X.mg "range" = none) (ha : PA X [a] ta) (hs : starEach [a] X.env = [(false, eval a X.env)] := by rfl) : PI X tg (.Call (.Name "range" p) [a] [] pos) (iRng1 ta) := by
  intro pins s σ H R I h
  refine Call_ (ld_blt I hg hm boot_range (PyProof.Rows.callWith_type1 (thn (ha pos pins s σ H _ I h) fun us s1 ⟨vs, H1, I1, r1, q1⟩ => ?_) hs rfl))
  obtain ⟨j, e, q1, q2, q⟩ := q1
  subst e
  cases r1 with
  | cons r rr =>
    cases rr
    obtain ⟨t, rfl⟩ := r
    exact call_range_1 (range_it I1 (by omega) (by omega) q1 q2 (by simpa using q))
noncomputable def tFor (wi : TI) (g : TG) (tb : TS) : TS := fun D σ H => wi σ H fun J H1 => ∃ W : Nat → Nat → St → Hp → Prop, (∃ m, W 0 m σ H1) ∧ ∀ i m σ H, W i m σ H →
  (J.stop i H ∧ D.nx σ H) ∨ (J.go i H ∧ ∃ N : St → Hp → Prop, (∀ σ' H', N σ' H' → ∃ m', m' < m ∧ W (i + 1) m' σ' H') ∧ ∀ x H', J.yld i H x H' → g x σ H' fun σ2 H2 => tb { D with nx := N, ct := N, bk := D.nx } σ2 H2)
noncomputable def pinsAt (fp : List Addr) (h : Heap) : List (Addr × Obj) := fp.filterMap fun b => (h.get? b).map fun o => (b, o)
theorem mem_pinsAt {fp : List Addr} {h : Heap} {b : Addr} {o : Obj} (hb : b ∈ fp) (e : h.get? b = some o) : (b, o) ∈ pinsAt fp h := List.mem_filterMap.mpr ⟨b, hb, by rw [e]; rfl⟩
theorem of_pinsAt {fp : List Addr} {h : Heap} {p : Addr × Obj} (hp : p ∈ pinsAt fp h) : p.1 ∈ fp ∧ h.get? p.1 = some p.2 := by
  obtain ⟨b, hb, e⟩ := List.mem_filterMap.mp hp
  cases q : h.get? b with
  | none => rw [q] at e; cases e
  | some o =>
    rw [q] at e
    have e' : (b, o) = p := Option.some.inj e
    subst e'
    exact ⟨hb, q⟩
theorem Inv.pinned {pins : List (Addr × Obj)} {σ : St} {H : Hp} {s : Shared} {fp : List Addr} (I : Inv X pins σ H s) (hf : ∀ b ∈ fp, FpOk X pins H b) (ho : ∀ b ∈ fp, ∃ o, s.heap.get? b = some o ∧ ∀ v, o.data ≠ .cell v) : Inv X (pins ++ pinsAt fp s.heap) σ H s :=
  I.pins_of fun p hp => (List.mem_append.mp hp).elim (fun z => I.pin p (List.mem_append_right _ z)) fun z => by
    obtain ⟨hb, e⟩ := of_pinsAt z
    obtain ⟨f0, f1, f2, _⟩ := hf p.1 hb
    obtain ⟨o, e', d⟩ := ho p.1 hb
    rw [e] at e'; cases e'
    exact ⟨e, f0, f1, f2, d⟩
theorem Inv.unpinned {pins pl : List (Addr × Obj)} {σ : St} {H : Hp} {s : Shared} (I : Inv X (pins ++ pl) σ H s) : Inv X pins σ H s := I.pins_of fun p hp => I.pin p (List.mem_append_right _ (List.mem_append_left _ hp))
theorem ps_for {iter : Expr} {body : List Stmt} {wi : TI} {g : TG} {tb : TS} {pos : Pos} (hp : PassesOwn (model X.prog X.w) X.A X.env X.xe) (hc : X.calm = true) (hi : PI X tg iter wi) (hg : PG X tg g) (hb : PSs X body tb)
    (hs : ∀ x, foldedSetIterable iter X.env x = pure x := by intro _; rfl) : PS X (.For tg iter body [] pos) (tFor wi g tb) := by
  intro pins s σ H D I h
  refine wpAny_For (thn (hi pins s σ H _ I h) fun v s1 h1 => thn h1 fun itv s2 h2 => ?_) hs
  obtain ⟨it, fp, tn, J, H2, e, I2, T, st2, f2, W, ⟨m0, w0⟩, turn⟩ := h2
  subst e
  -- what stays true of the iterator's objects through the loop
  have stat : ∀ {H' : Hp}, (∀ b ∈ fp, H' b = none) → ∀ b ∈ fp, FpOk X pins H' b := fun hn b hb => ⟨hn b hb, (f2 b hb).2⟩
  refine codeAny_forLoop_any (fun n s' => ∃ i σ' H', Inv X pins σ' H' s' ∧ tn i s'.heap ∧ (∀ b ∈ fp, H' b = none) ∧ W i n σ' H') ?_ m0 ⟨0, σ, H2, I2, st2, fun b hb => (f2 b hb).1, w0⟩
  rintro n s3 ⟨i, σ3, H3, I3, st3, fr3, w3⟩
  rcases turn i n σ3 H3 w3 with ⟨stop, qn⟩ | ⟨go, N, hN, step⟩
  · refine wpAny_passesOwn hp (thn (T.done X rfl rfl rfl hc i pins s3 σ3 H3 X.xe I3 (stat fr3) st3 stop) fun r s4 ⟨hr, I4⟩ => ?_)
    subst hr
    exact wpAny_execs_nil ⟨σ3, H3, I4, qn⟩
  · refine wpAny_passesOwn hp (thn (T.item X rfl rfl rfl hc i pins s3 σ3 H3 X.xe I3 (stat fr3) st3 go) fun r s4 ⟨u, hr, h4⟩ => ?_)
    subst hr
    refine wpAny_passesOwn hp (thn h4 fun _ s5 ⟨x, H5, I5, r5, y5, st5, fr5⟩ => ?_)
    have I5' := I5.pinned (stat fr5) (T.obj _ _ st5)
    refine wpAny_passesOwn hp (thn (hg _ s5 σ3 H5 x u _ I5' r5 (step x H5 y5)) fun _ s6 ⟨σ6, H6, I6, q6⟩ => ?_)
    refine wpAny_passesOwn hp (thn (hb _ s6 σ6 H6 _ I6 q6) fun f s7 q7 => ?_)
    have again : ∀ {σ7 : St} {H7 : Hp}, Inv X (pins ++ pinsAt fp s5.heap) σ7 H7 s7 → N σ7 H7 → ∃ m, m < n ∧ ∃ i σ' H', Inv X pins σ' H' s7 ∧ tn i s7.heap ∧ (∀ b ∈ fp, H' b = none) ∧ W i m σ' H' := fun {σ7 H7} I7 n7 => by
      obtain ⟨m', hm, w7⟩ := hN σ7 H7 n7
      refine ⟨m', hm, i + 1, σ7, H7, I7.unpinned, T.keep _ _ _ st5 fun b hb o e => (I7.pin (b, o) (List.mem_append_right _ (List.mem_append_right _ (mem_pinsAt hb e)))).1, fun b hb => ?_, w7⟩
      obtain ⟨o, e, d⟩ := T.obj _ _ st5 b hb
      exact (I7.pin (b, o) (List.mem_append_right _ (List.mem_append_right _ (mem_pinsAt hb e)))).2.1
    cases f with
    | next => obtain ⟨σ7, H7, I7, n7⟩ := q7; exact again I7 n7
    | cont => obtain ⟨σ7, H7, I7, n7⟩ := q7; exact again I7 n7
    | brk => obtain ⟨σ7, H7, I7, q7⟩ := q7; exact ⟨σ7, H7, I7.unpinned, q7⟩
    | ret v => obtain ⟨x7, σ7, H7, I7, r7, q7⟩ := q7; exact ⟨x7, σ7, H7, I7.unpinned, r7, q7⟩
end
end L2
namespace L2
open PySem PySem.Spec PyProof.Rows
noncomputable abbrev R2 := V → V → Hp → VK → Prop
noncomputable def OpR (X : Cx) (f : Value → Value → Sem Value) (r : R2) : Prop :=
  ∀ (pins : List (Addr × Obj)) (s : Shared) (σ : St) (H : Hp) (x y : V) (v u : Value) (Q : VK), Inv X pins σ H s → RelV x v → RelV y u → r x y H Q →
    wpAny (model X.prog X.w) X.A (f v u) (EP X pins σ Q) X.xe s
noncomputable def UnR (X : Cx) (f : Value → Sem Value) (r : V → Hp → VK → Prop) : Prop :=
  ∀ (pins : List (Addr × Obj)) (s : Shared) (σ : St) (H : Hp) (x : V) (v : Value) (Q : VK), Inv X pins σ H s → RelV x v → r x H Q →
    wpAny (model X.prog X.w) X.A (f v) (EP X pins σ Q) X.xe s
noncomputable def CallR (X : Cx) (f : Value) (r : List V → Hp → VK → Prop) : Prop :=
  ∀ (pins : List (Addr × Obj)) (s : Shared) (σ : St) (H : Hp) (xs : List V) (us : List Value) (Q : VK), Inv X pins σ H s → Vals xs us → r xs H Q →
    wpAny (model X.prog X.w) X.A (call f us) (EP X pins σ Q) X.xe s
noncomputable def TruR (X : Cx) (r : V → Hp → (Bool → Hp → Prop) → Prop) : Prop :=
  ∀ (pins : List (Addr × Obj)) (s : Shared) (σ : St) (H : Hp) (x : V) (v : Value) (Q : Bool → Hp → Prop), Inv X pins σ H s → RelV x v → r x H Q →
    wpAny (model X.prog X.w) X.A (truthy v) (TP X pins σ Q) X.xe s
noncomputable def tOp (r : R2) (ta tb : TE) : TE := fun σ H Q => ta σ H fun x H1 => tb σ H1 fun y H2 => r x y H2 Q
noncomputable def rI (C : Int → Int → Prop) (g : Int → Int → V) : R2 := fun x y H Q => ∃ i j, x = .int i ∧ y = .int j ∧ C i j ∧ Q (g i j) H
noncomputable def rI0 (g : Int → Int → V) : R2 := fun x y H Q => ∃ i j, x = .int i ∧ y = .int j ∧ Q (g i j) H
section
variable {X : Cx} {a b c : Expr} {ta tb tc : TE} {pos : Pos}
theorem binT (ha : PE X a ta) (hb : PE X b tb) {pins : List (Addr × Obj)} {s : Shared} {σ : St} {H : Hp} {R : V → V → Hp → Prop} (I : Inv X pins σ H s)
    (h : ta σ H fun x H1 => tb σ H1 fun y H2 => R x y H2) {Q : Value → Shared → Prop} {f : Value → Value → Sem Value}
    (hf : ∀ v u s2 x y H2, Inv X pins σ H2 s2 → RelV x v → RelV y u → R x y H2 → wpAny (model X.prog X.w) X.A (f v u) Q X.xe s2) :
    wpAny (model X.prog X.w) X.A (eval a X.env) (fun v s₁ => wpAny (model X.prog X.w) X.A (eval b X.env) (fun u s₂ => wpAny (model X.prog X.w) X.A (f v u) Q X.xe s₂) X.xe s₁) X.xe s := by
  refine thn (ha pins s σ H _ I h) fun v s1 ⟨x, H1, I1, r1, q1⟩ => ?_
  refine thn (hb pins s1 σ H1 _ I1 q1) fun u s2 ⟨y, H2, I2, r2, q2⟩ => ?_
  exact hf v u s2 x y H2 I2 r1 r2 q2
theorem pe_op {op : Operator} {r : R2} (ho : OpR X (binaryOp op) r) (ha : PE X a ta) (hb : PE X b tb) : PE X (.BinOp a op b pos) (tOp r ta tb) := by
  intro pins s σ H Q I h
  exact wpAny_BinOp (binT ha hb I h fun v u s2 x y H2 I2 rx ry q => ho pins s2 σ H2 x y v u Q I2 rx ry q)
theorem opI {f : Value → Value → Sem Value} {C : Int → Int → Prop} {g : Int → Int → Int}
    (rule : ∀ (i j : Int) (t u : Tok) (s : Shared) (Q : Value → Shared → Prop) (E : Value → Shared → Prop), C i j → Q (.int (g i j) s.toks) { s with toks := s.toks + 1 } → wpAny (model X.prog X.w) X.A (f (.int i t) (.int j u)) Q E s) :
    OpR X f (rI C fun i j => .int (g i j)) := by
  intro pins s σ H x y v u Q I rx ry h
  obtain ⟨i, j, rfl, rfl, hc, q⟩ := h
  obtain ⟨t, rfl⟩ := rx
  obtain ⟨t', rfl⟩ := ry
  exact rule i j t t' s _ _ hc ⟨.int (g i j), H, I.tok _, ⟨_, rfl⟩, q⟩
theorem opI0 {f : Value → Value → Sem Value} {g : Int → Int → Int}
    (rule : ∀ (i j : Int) (t u : Tok) (s : Shared) (Q : Value → Shared → Prop) (E : Value → Shared → Prop), Q (.int (g i j) s.toks) { s with toks := s.toks + 1 } → wpAny (model X.prog X.w) X.A (f (.int i t) (.int j u)) Q E s) :
    OpR X f (rI0 fun i j => .int (g i j)) := by
  intro pins s σ H x y v u Q I rx ry h
  obtain ⟨i, j, rfl, rfl, q⟩ := h
  obtain ⟨t, rfl⟩ := rx
  obtain ⟨t', rfl⟩ := ry
  exact rule i j t t' s _ _ ⟨.int (g i j), H, I.tok _, ⟨_, rfl⟩, q⟩
theorem opB0 {f : Value → Value → Sem Value} {g : Int → Int → Bool}
    (rule : ∀ (i j : Int) (t u : Tok) (s : Shared) (Q : Value → Shared → Prop) (E : Value → Shared → Prop), Q (.bool (g i j)) s → wpAny (model X.prog X.w) X.A (f (.int i t) (.int j u)) Q E s) :
    OpR X f (rI0 fun i j => .bl (g i j)) := by
  intro pins s σ H x y v u Q I rx ry h
  obtain ⟨i, j, rfl, rfl, q⟩ := h
  obtain ⟨t, rfl⟩ := rx
  obtain ⟨t', rfl⟩ := ry
  exact rule i j t t' s _ _ ⟨.bl (g i j), H, I, rfl, q⟩
noncomputable def CPow (i j : Int) : Prop := 0 ≤ j ∧ j ≤ 1000000 ∧ i.natAbs < 2 ^ 64
noncomputable def CMul (i j : Int) : Prop := (-(2 ^ 64) < i ∧ i < 2 ^ 64) ∨ (-(2 ^ 64) < j ∧ j < 2 ^ 64)
theorem CMul.ok {i j : Int} (h : CMul i j) : IntMulOk i j := by
  rcases h with ⟨h1, h2⟩ | ⟨h1, h2⟩
  · exact .of_left (intBits_le_64 h1 h2)
  · exact .of_right (intBits_le_64 h1 h2)
theorem two_pow_nn (k : Nat) : (0 : Int) ≤ 2 ^ k := by
  rw [two_pow_cast]
  exact Int.natCast_nonneg _
theorem op_add : OpR X (binaryOp .Add) (rI0 fun i j => .int (i + j)) := opI0 fun _ _ _ _ _ _ _ q => add_int q
theorem op_mul : OpR X (binaryOp .Mult) (rI CMul fun i j => .int (i * j)) := opI fun _ _ _ _ _ _ _ hc q => mul_int q hc.ok
theorem op_mod : OpR X (binaryOp .Mod) (rI (fun _ j => 0 < j) fun i j => .int (i % j)) := opI fun i j _ _ _ _ _ hc q => by
  have h1 : (0 : Int) < j := hc
  exact mod_int' (by omega) (by rw [Int.fmod_eq_emod_of_nonneg i (by omega)]; exact q)
theorem op_shl : OpR X (binaryOp .LShift) (rI CPow fun i j => .int (i * 2 ^ j.toNat)) := opI fun _ _ _ _ _ _ _ hc q => lshift_int_small hc.1 hc.2.1 hc.2.2 q
theorem op_shr : OpR X (binaryOp .RShift) (rI (fun _ j => 0 ≤ j) fun i j => .int (i / 2 ^ j.toNat)) := opI fun i j _ _ _ _ _ hc q =>
  rshift_int hc (by rw [Int.fdiv_eq_ediv_of_nonneg i (two_pow_nn _)]; exact q)
theorem op_and : OpR X (binaryOp .BitAnd) (rI0 fun i j => .int (Builtin.bitAnd i j)) := opI0 fun _ _ _ _ _ _ _ q => and_int q
end
section
variable {X : Cx} {a b c : Expr} {ta tb tc : TE} {pos : Pos}
theorem op_lt : OpR X (compareOp .Lt) (rI0 fun i j => .bl (decide (i < j))) := opB0 fun _ _ _ _ _ _ _ q => lt_int q
theorem OpR.or {f : Value → Value → Sem Value} {r r' : R2} (h : OpR X f r) (h' : OpR X f r') : OpR X f (fun x y H Q => r x y H Q ∨ r' x y H Q) := by
  intro pins s σ H x y v u Q I rx ry q
  rcases q with q | q
  · exact h pins s σ H x y v u Q I rx ry q
  · exact h' pins s σ H x y v u Q I rx ry q
theorem pe_cmpR {op : CmpOp} {r : R2} (ho : OpR X (compareOp op) r) (ha : PE X a ta) (hb : PE X b tb) (hm : behindInMarks op b = false) : PE X (.Compare a [op] [b] pos) (tOp r ta tb) := by
  intro pins s σ H Q I h
  exact wpAny_Compare1 (binT ha hb I h fun v u s2 x y H2 I2 rx ry q => ho pins s2 σ H2 x y v u Q I2 rx ry q) hm
noncomputable def tTest (t : TE) : TT := fun σ H Q => t σ H fun x H' => ∃ k, x = .bl k ∧ Q k H'
theorem pt_cmpR {op : CmpOp} {r : R2} (ho : OpR X (compareOp op) r) (ha : PE X a ta) (hb : PE X b tb) (hm : behindInMarks op b = false) : PT X (.Compare a [op] [b] pos) (tTest (tOp r ta tb)) := by
  intro pins s σ H Q I h
  refine wpAny_isTrue_Compare1 (thn (ha pins s σ H _ I h) fun v s1 ⟨x, H1, I1, r1, q1⟩ => thn (hb pins s1 σ H1 _ I1 q1) fun u s2 ⟨y, H2, I2, r2, q2⟩ =>
    thn (ho pins s2 σ H2 x y v u _ I2 r1 r2 q2) fun c s3 ⟨z, H3, I3, r3, k, e, q3⟩ => ?_) hm
  subst e
  cases r3
  exact wpAny_truthy_bool ⟨H3, I3, q3⟩
noncomputable def TruV (K : PySem.W.Frag) (x : V) (H : Hp) (k : Bool) : Prop :=
  match x with
  | .non => k = false
  | .bl b => k = b
  | .int i => k = (i != 0)
  | .str y => y.length ≤ sizeLine ∧ k = ((y.length : Int) != 0)
  | .byt y => y.size ≤ sizeLine ∧ k = ((y.size : Int) != 0)
  | .ref p => (∃ xs, SqL K H p xs ∧ k = !xs.isEmpty) ∨ (∃ xs, SqT K H p xs ∧ k = !xs.isEmpty) ∨ ∃ kvs, H p = some (.dK kvs) ∧ k = !kvs.isEmpty
  | _ => False
theorem isEmpty_kv {κ : Type} {kvs : List (κ × V)} {vs : List (κ × Value)} (r : KV kvs vs) : (!vs.isEmpty) = !kvs.isEmpty := by
  cases r <;> rfl
theorem isEmpty_of {xs : List V} {its : List Value} (r : Vals xs its) : (!its.toArray.isEmpty) = !xs.isEmpty := by
  cases r <;> simp
theorem line63 : (sizeLine : Nat) < 2 ^ 63 := by rw [sizeLine_eq]; decide
theorem tru_ok : TruR X (fun x H Q => ∃ k, TruV X.K x H k ∧ Q k H) := by
  intro pins s σ H x v Q I rx h
  obtain ⟨k, e, q⟩ := h
  have hl := line63
  have hs : sizeLine = 16777216 := sizeLine_eq
  cases x with
  | non =>
    cases rx
    have e' : k = false := e
    subst e'
    exact truthy_none ⟨H, I, q⟩
  | bl b =>
    cases rx
    have e' : k = b := e
    subst e'
    exact wpAny_truthy_bool ⟨H, I, q⟩
  | int i =>
    obtain ⟨t, rfl⟩ := rx
    have e' : k = (i != 0) := e
    subst e'
    exact PySem.P.truthy_int ⟨H, I, q⟩
  | str y =>
    obtain ⟨t, rfl⟩ := rx
    obtain ⟨hy, e'⟩ : y.length ≤ sizeLine ∧ k = ((y.length : Int) != 0) := e
    subst e'
    exact PySem.P.truthy_str (by omega) ⟨H, I.tok _, q⟩
  | byt y =>
    obtain ⟨t, rfl⟩ := rx
    obtain ⟨hy, e'⟩ : y.size ≤ sizeLine ∧ k = ((y.size : Int) != 0) := e
    subst e'
    exact PySem.W.truthy_bytes (by omega) ⟨H, I.tok _, q⟩
  | ref p =>
    cases rx
    have e' : (∃ xs, SqL X.K H p xs ∧ k = !xs.isEmpty) ∨ (∃ xs, SqT X.K H p xs ∧ k = !xs.isEmpty) ∨ ∃ kvs, H p = some (.dK kvs) ∧ k = !kvs.isEmpty := e
    rcases e' with ⟨xs, hx, e'⟩ | ⟨xs, hx, e'⟩ | ⟨kvs, hx, e'⟩
    · subst e'
      obtain ⟨its, r, pl, hz⟩ := I.list hx
      have hlen := r.length
      exact wpAny_truthy_list pl.isList (by simp only [List.size_toArray]; omega) ⟨H, I.tok _, by rw [isEmpty_of r]; exact q⟩
    · subst e'
      obtain ⟨its, r, pl, hz⟩ := I.tuple hx
      have hlen := r.length
      exact truthy_tuple pl (by simp only [List.size_toArray]; omega) ⟨H, I.tok _, by rw [isEmpty_of r]; exact q⟩
    · subst e'
      obtain ⟨hz, hS, vs, r, m⟩ : kvs.length ≤ sizeLine ∧ (p == sysModules) = false ∧ ∃ vs, KV kvs vs ∧ s.heap.DictOf (mixKind X.prog X.w) p vs := I.hok p _ hx
      have hlen : kvs.length = vs.length := Paired.length r
      exact wpAny_truthy_dict hS m (by omega) ⟨H, I.tok _, by rw [isEmpty_kv r]; exact q⟩
  | _ => exact (show False from e).elim
theorem pt_truth (ha : PE X a ta) (he : ∀ whole, isTrue a X.env whole = (do let v ← whole; standAt a.pos; holding [v] (truthy v))) :
    PT X a (fun σ H Q => ta σ H fun x H' => ∃ k, TruV X.K x H' k ∧ Q k H') := by
  intro pins s σ H Q I h
  exact isTrue_plain (thn (ha pins s σ H _ I h) fun v s1 ⟨x, H1, I1, r1, q1⟩ => tru_ok pins s1 σ H1 x v Q I1 r1 q1) (he _)
theorem op_add_str : OpR X (binaryOp .Add) (fun x y H Q => ∃ i j, x = .str i ∧ y = .str j ∧ i.length + j.length ≤ sizeLine ∧ Q (.str (i ++ j)) H) := by
  intro pins s σ H x y v u Q I rx ry h
  obtain ⟨i, j, rfl, rfl, hz, q⟩ := h
  obtain ⟨t, rfl⟩ := rx
  obtain ⟨t', rfl⟩ := ry
  exact add_str (fun t' tk => ⟨.str (i ++ j), H, I.tok _, ⟨_, rfl⟩, q⟩) hz
theorem vals1 {x : V} {us : List Value} (r : Vals [x] us) : ∃ u, us = [u] ∧ RelV x u := by
  cases r with
  | cons r1 r2 => cases r2; exact ⟨_, rfl, r1⟩
theorem vals2 {x y : V} {us : List Value} (r : Vals [x, y] us) : ∃ u w', us = [u, w'] ∧ RelV x u ∧ RelV y w' := by
  cases r with
  | cons r1 r2 =>
    cases r2 with
    | cons r3 r4 => cases r4; exact ⟨_, _, rfl, r1, r3⟩
noncomputable def LenV (K : PySem.W.Frag) (x : V) (H : Hp) (n : Nat) : Prop :=
  match x with
  | .str y => y.length ≤ sizeLine ∧ n = y.length
  | .byt y => y.size ≤ sizeLine ∧ n = y.size
  | .ref p => (∃ xs, SqL K H p xs ∧ n = xs.length) ∨ ∃ xs, SqT K H p xs ∧ n = xs.length
  | _ => False
theorem call_len : CallR X (.builtin "len") (fun xs H Q => ∃ x n, xs = [x] ∧ LenV X.K x H n ∧ Q (.int n) H) := by
  intro pins s σ H xs us Q I r h
  obtain ⟨x, n, rfl, e, q⟩ := h
  obtain ⟨u, rfl, rx⟩ := vals1 r
  have hl := line63
  have hs : sizeLine = 16777216 := sizeLine_eq
  cases x with
  | str y =>
    obtain ⟨t, rfl⟩ := rx
    obtain ⟨hy, e'⟩ : y.length ≤ sizeLine ∧ n = y.length := e
    subst e'
    exact len_str (by omega) ⟨.int _, H, I.tok _, ⟨_, rfl⟩, q⟩
  | byt y =>
    obtain ⟨t, rfl⟩ := rx
    obtain ⟨hy, e'⟩ : y.size ≤ sizeLine ∧ n = y.size := e
    subst e'
    exact PySem.W.len_bytes (by omega) ⟨.int _, H, I.tok _, ⟨_, rfl⟩, q⟩
  | ref p =>
    cases rx
    have e' : (∃ xs, SqL X.K H p xs ∧ n = xs.length) ∨ ∃ xs, SqT X.K H p xs ∧ n = xs.length := e
    rcases e' with ⟨xs, hx, e'⟩ | ⟨xs, hx, e'⟩
    · subst e'
      obtain ⟨its, r', pl, hz⟩ := I.list hx
      have hlen := r'.length
      exact Calls.call_len_list pl.isList (by simp only [List.size_toArray]; omega) ⟨.int xs.length, H, I.tok _, ⟨_, by simp only [List.size_toArray]; rw [hlen]⟩, q⟩
    · subst e'
      obtain ⟨its, r', pl, hz⟩ := I.tuple hx
      have hlen := r'.length
      exact len_tuple pl (by simp only [List.size_toArray]; omega) ⟨.int xs.length, H, I.tok _, ⟨_, by simp only [List.size_toArray]; rw [hlen]⟩, q⟩
  | _ => exact (show False from e).elim
end
end L2
namespace L2
open PySem PySem.Spec PyProof.Rows
section
variable {prog : Program} {w : World} {A : Around} {E : Value → Shared → Prop} {s : Shared} {K : PySem.W.Frag} {x dx C f : Addr} {mA : Str → Option Value} {name : Str} {v : Value}
end
theorem RelO.some_of {v : V} {o : Option Value} (r : RelO (some v) o) : ∃ u, o = some u ∧ RelV v u := by
  cases o with
  | none => exact (show False from r).elim
  | some u => exact ⟨u, rfl, r⟩
section
variable {P : Program} {w : World} {H H' : Hp} {h h' : Heap} {a C dx : Addr} {fs fs' : List (Str × V)}
end
section
variable {X : Cx} {pins : List (Addr × Obj)} {σ : St} {H : Hp} {s : Shared} {a C dx : Addr} {fs : List (Str × V)} {f : Str} {v : V} {A : Around} {E : Value → Shared → Prop}
end
section
variable {X : Cx} {o e value : Expr} {f : Str} {pos pos' tpos : Pos} {ta tv : TE}
end
section
variable {X : Cx} {pins : List (Addr × Obj)} {σ : St} {H : Hp} {s : Shared} {A : Around} {E : Value → Shared → Prop} {Q : Value → Shared → Prop} {c : Value} {b : Bool}
end
end L2
namespace L2
open PySem PySem.Spec PyProof.Rows
structure Room (k : Nat) (A : Around) : Prop where
  hd : A.handled = none
  dp : A.depth + 3 * k + 5 < recursionLimit
  un : A.units + 16 * k + 200 < cLine
theorem Room.deeper {k : Nat} {A : Around} (r : Room (k + 1) A) (env : Env) : Room k (A.deeper env) :=
  ⟨r.hd, by have := r.dp; show A.depth + 1 + 3 * k + 5 < _; omega, by have := r.un; show A.units + 3 + 16 * k + 200 < _; omega⟩
theorem Room.depth {k : Nat} {A : Around} (r : Room k A) : A.depth < recursionLimit := by have := r.dp; omega
noncomputable def tNil : TA := fun _ H Q => Q [] H
noncomputable def tCons (ta : TE) (tr : TA) : TA := fun σ H Q => ta σ H fun x H1 => tr σ H1 fun xs H2 => Q (x :: xs) H2
section
variable {X : Cx} {e : Expr} {es : List Expr} {te : TE} {t : TA} {pos : Pos}
theorem pa_nil : PA X [] tNil := fun _ _ _ _ H Q I h => Calls.spliced_nil ⟨[], H, I, .nil, h⟩
theorem pa_cons (ha : PE X e te) (hr : PA X es t) (hs : starEach (e :: es) X.env = (false, eval e X.env) :: starEach es X.env := by rfl) : PA X (e :: es) (tCons te t) := by
  intro pos pins s σ H Q I h
  rw [hs]
  show wpAny _ _ (spliced ((false, eval e X.env) :: backTo pos (starEach es X.env))) _ _ s
  refine Calls.spliced_cons (thn (ha pins s σ H _ I h) fun u s1 ⟨x, H1, I1, r1, q1⟩ => ?_)
  exact thn (hr pos pins s1 σ H1 _ I1 q1) fun us s2 ⟨xs, H2, I2, r2, q2⟩ => ⟨x :: xs, H2, I2, .cons r1 r2, q2⟩
noncomputable def tTup (t : TA) : TE := fun σ H Q => t σ H fun xs H1 => xs.length ≤ sizeLine ∧ ∀ p, H1 p = none → Q (.ref p) (upd H1 p (.tup xs))
noncomputable def tLst (t : TA) : TE := fun σ H Q => t σ H fun xs H1 => xs.length ≤ sizeLine ∧ ∀ p, H1 p = none → Q (.ref p) (upd H1 p (.lst xs))
theorem pe_tup {x1} (h : PA X es t) : PE X (.Tuple es x1 pos) (tTup t) := by
  intro pins s σ H Q I hq
  refine wpAny_Tuple_spliced (thn (h pos pins s σ H _ I hq) fun us s1 ⟨xs, H1, I1, r, z, q⟩ => ⟨by rw [← r.length]; exact z, ?_⟩)
  have hf : H1 s1.heap.objs.size = none := I1.hok.fresh (Nat.le_refl _)
  refine ⟨.ref s1.heap.objs.size, upd H1 s1.heap.objs.size (.tup xs), I1.laid (t' := s1.toks) (fun b u e => Heap.get?_push_of_some _ e) (Nat.le_refl _) ?_, rfl, q _ hf⟩
  exact ⟨z, us, r, ⟨⟨_, Heap.get?_push_size _ rfl, rfl, _, rfl⟩, _, Heap.get?_push_size _ rfl, rfl⟩⟩
theorem pe_lst (h : PA X es t) : PE X (.List es pos) (tLst t) := by
  intro pins s σ H Q I hq
  refine wpAny_List_spliced (thn (h pos pins s σ H _ I hq) fun us s1 ⟨xs, H1, I1, r, z, q⟩ => ⟨by rw [← r.length]; exact z, ?_⟩)
  have hf : H1 s1.heap.objs.size = none := I1.hok.fresh (Nat.le_refl _)
  refine ⟨.ref s1.heap.objs.size, upd H1 s1.heap.objs.size (.lst xs), I1.laid (t' := s1.toks) (fun b u e => Heap.get?_push_of_some _ e) (Nat.le_refl _) ?_, rfl, q _ hf⟩
  exact ⟨z, us, 0, r, Heap.get?_push_size _ rfl⟩
end
noncomputable abbrev Sp := List V → Hp → VK → XK → Prop
noncomputable abbrev CXT := List Env → Hp → Shared → XK → Value → Shared → Prop
structure Env0 (P : Program) (w : World) (K : PySem.W.Frag) (mg : Str → Option Value) (base : Heap) (A : Around) (outer : List Env) (s : Shared) (H : Hp) : Prop where
  frames : A.frames = some outer
  mod : Mod K mg base
  bs : ∀ b o, base.get? b = some o → s.heap.get? b = some o ∧ H b = none
  bsz : base.objs.size ≤ s.heap.objs.size
  funs : s.heap.FunFrames base outer
  frf : ∀ b ∈ frs outer, H b = none
  hok : HOk P w H s.heap
  bare : AllBare s.gens
noncomputable def CE (outer : List Env) (P : Program) (w : World) (H : Hp) (s : Shared) (Q : VK) (u : Value) (s' : Shared) : Prop :=
  ∃ v H', s'.os = s.os ∧ AllBare s'.gens ∧ Un (frs outer) [] H H' s.heap s'.heap ∧ HOk P w H' s'.heap ∧ RelV v u ∧ Q v H'
noncomputable def CR (CX : CXT) (outer : List Env) (P : Program) (w : World) (H : Hp) (s : Shared) (Q : VK) (E : XK) (r : Result) (s' : Shared) : Prop :=
  match r with
  | .ok (.ret u) => CE outer P w H s Q u s'
  | .ok _ => False
  | .error e => CX outer H s E e s'
structure FnOk (P : Program) (w : World) (K : PySem.W.Frag) (mg : Str → Option Value) (base : Heap) (CX : CXT) (k : Nat) (f : Addr) (fd : FuncData) (ps : List Str) (sp : Sp) : Prop where
  len : ∀ vs H Q E, sp vs H Q E → vs.length = ps.length
  run : ∀ (A : Around) (outer : List Env) (s : Shared) (H : Hp) (args : Args) (us : List Value) (vs : List V) (Q : VK) (E : XK), Room k A → Env0 P w K mg base A outer s H → BindsTo s fd args (ps.zip us) → Vals vs us → sp vs H Q E →
    codeAny (model P w) A (.call (.ref f) args) (CR CX outer P w H s Q E) s
section
variable {X : Cx} {pins : List (Addr × Obj)} {σ : St} {H : Hp} {s s' : Shared}
theorem Inv.env0 (I : Inv X pins σ H s) : Env0 X.prog X.w X.K X.mg X.base X.A X.stack s H :=
  ⟨I.ok.frames, I.ok.mod, I.bs, Nat.le_trans I.ok.bsz I.sz, I.stack, I.stkFree, I.hok, I.bare⟩
theorem Inv.after {Q : VK} {u : Value} (I : Inv X pins σ H s) (h : CE X.stack X.prog X.w H s Q u s') : EP X pins σ Q u s' := by
  obtain ⟨v, H', os, bare, un, hok, r, q⟩ := h
  obtain ⟨hh, g, d, t, os'⟩ := s'
  obtain rfl : os' = s.os := os
  exact ⟨v, H', I.call (h' := hh) (g' := g) (d' := d) (t' := t) (ch := []) un hok bare (fun b z => absurd z (by simp)), r, q⟩
end
noncomputable def tCall (sp : Sp) (dvs : List V) (E : XK) (t : TA) : TE := fun σ H Q => t σ H fun vs H1 => sp (vs ++ dvs) H1 Q E
noncomputable def Binds (K : PySem.W.Frag) (fd : FuncData) (ps : List Str) (ds : List Value) : Prop :=
  ∀ (s : Shared) (us : List Value), K.In s.heap → (us ++ ds).length = ps.length → BindsTo s fd ⟨us, []⟩ (ps.zip (us ++ ds))
theorem Binds.all {K : PySem.W.Frag} {fd : FuncData} {ps : List Str} (h : ∀ us : List Value, us.length = ps.length → bindArgs fd ⟨us, []⟩ = pure (ps.zip us)) : Binds K fd ps [] := fun s us _ hl => by
  rw [List.append_nil] at hl ⊢
  exact .of_eq (h us hl)
noncomputable def Passes (CX : CXT) (X : Cx) (E : XK) : Prop := ∀ (pins : List (Addr × Obj)) (σ : St) (H : Hp) (s : Shared) (e : Value) (s' : Shared), Inv X pins σ H s → CX X.stack H s E e s' → X.xe e s'
section
variable {X : Cx} {CX : CXT} {k : Nat} {f C : Addr} {fd : FuncData} {ps : List Str} {sp : Sp} {dvs : List V} {ds : List Value} {E : XK} {x m : Str} {p pos apos : Pos} {e o : Expr} {es : List Expr} {ta : TE} {t : TA}
theorem run_fn {pins : List (Addr × Obj)} {σ : St} {H : Hp} {s : Shared} {Q : VK} {us : List Value} {vs : List V} (F : FnOk X.prog X.w X.K X.mg X.base CX k f fd ps sp) (hr : Room k X.A) (hb : Binds X.K fd ps ds) (hd : Vals dvs ds) (hx : Passes CX X E)
    (I : Inv X pins σ H s) (r : Vals vs us) (h : sp (vs ++ dvs) H Q E) : wpAny (model X.prog X.w) X.A (call (.ref f) us) (EP X pins σ Q) X.xe s := by
  have r2 : Vals (vs ++ dvs) (us ++ ds) := r.append hd
  have hl : (us ++ ds).length = ps.length := by rw [← r2.length]; exact F.len _ _ _ _ h
  refine wpAny_call (codeAny_mono (F.run X.A X.stack s H ⟨us, []⟩ (us ++ ds) (vs ++ dvs) Q E hr I.env0 (hb s us I.kIn hl) r2 h) fun r s' hq => ?_)
  cases r with
  | error e => exact hx pins σ H s e s' I hq
  | ok fl =>
    cases fl with
    | ret u => exact I.after hq
    | next => exact False.elim hq
    | brk => exact False.elim hq
    | cont => exact False.elim hq
theorem pe_call (F : FnOk X.prog X.w X.K X.mg X.base CX k f fd ps sp) (hr : Room k X.A) (hg : Gl X x) (hm : X.mg x = some (.ref f)) (hk : PySem.W.keepIn X.K (.ref f) = true) (hb : Binds X.K fd ps ds) (hd : Vals dvs ds) (hx : Passes CX X E)
    (ha : PA X (e :: es) t) (hdb : (x == ("__debug__" : Str)) = false := by decide) (he : starEach (e :: es) X.env = (false, eval e X.env) :: starEach es X.env := by rfl) (hpl : (backTo pos (starEach es X.env)).any (·.1) = false := by rfl) :
    PE X (.Call (.Name x p) (e :: es) [] pos) (tCall sp dvs E t) := by
  intro pins s σ H Q I h
  refine wpAny_Call_Name_kw (ld_glob I hg hm ?_ hdb)
  refine PySem.W.callWith_K (h₀ := X.base) I.ok.mod.kin hk (thn (ha pos pins s σ H _ I h) fun us s1 ⟨vs, H1, I1, r, q⟩ => ⟨I1.kIn, ?_⟩) he hpl
  exact run_fn F hr hb hd hx I1 r q
end
section
variable {X : Cx} {CX : CXT} {k : Nat} {f C : Addr} {fd : FuncData} {ps ks : List Str} {sp : Sp} {E : XK} {x m : Str} {p pos apos kpos : Pos} {e o : Expr} {es : List Expr} {kws : List Keyword} {te ta : TE} {t tk : TA} {nm : Option Str}
variable {g : List Value → List Value → List Value} {gV : List V → List V → List V}
end
structure FnScope (N P : List Str) (sc : Scope) : Prop where
  kind : sc.kind = .function
  co : sc.isCoroutine = false
  gen : sc.isGenerator = false
  nd : N.Nodup
  pre : N.take P.length = P
  par : ∀ x ∈ P, sc.names.lookup x = some .local ∨ sc.names.lookup x = some .cell
  nofree : ∀ y ∈ sc.names, y.2 ≠ .free
theorem bindL_out {kindOf : Str → Option NameKind} {x : Str} : ∀ {binds : List (Str × Value)} {m : Str → Option Value}, (∀ v, (x, v) ∉ binds) → bindL kindOf binds m x = m x
  | [], _, _ => rfl
  | (n, v) :: r, m, h => by
    unfold bindL
    rw [bindL_out fun w hw => h w (List.mem_cons_of_mem _ hw)]
    split
    · have : x ≠ n := by rintro rfl; exact h v List.mem_cons_self
      simp [this]
    · rfl
theorem bindC_out {kindOf : Str → Option NameKind} {x : Str} : ∀ {binds : List (Str × Value)} {m : Str → Option Value}, (∀ v, (x, v) ∉ binds) → bindC kindOf binds m x = m x
  | [], _, _ => rfl
  | (n, v) :: r, m, h => by
    unfold bindC
    rw [bindC_out fun w hw => h w (List.mem_cons_of_mem _ hw)]
    split
    · rfl
    · have : x ≠ n := by rintro rfl; exact h v List.mem_cons_self
      simp [this]
theorem bindL_get {kindOf : Str → Option NameKind} {x : Str} {v : Value} : ∀ {P : List Str} {vs : List Value} {i : Nat} {m : Str → Option Value}, P.Nodup → P[i]? = some x → vs[i]? = some v → kindOf x = some .local →
    bindL kindOf (P.zip vs) m x = some v
  | [], _, _, _, _, h, _, _ => by simp at h
  | _ :: _, [], _, _, _, _, h, _ => by simp at h
  | p :: P, w :: vs, 0, m, nd, h1, h2, hk => by
    simp at h1 h2; subst h1; subst h2
    show bindL kindOf ((p, w) :: P.zip vs) m p = _
    unfold bindL
    rw [bindL_out fun v hv => (List.nodup_cons.mp nd).1 (List.of_mem_zip hv).1, if_pos hk]
    simp
  | p :: P, w :: vs, i + 1, m, nd, h1, h2, hk => by
    show bindL kindOf ((p, w) :: P.zip vs) m x = _
    unfold bindL
    exact bindL_get (i := i) (List.nodup_cons.mp nd).2 (by simpa using h1) (by simpa using h2) hk
theorem bindC_get {kindOf : Str → Option NameKind} {x : Str} {v : Value} : ∀ {P : List Str} {vs : List Value} {i : Nat} {m : Str → Option Value}, P.Nodup → P[i]? = some x → vs[i]? = some v → kindOf x ≠ some .local →
    bindC kindOf (P.zip vs) m x = some v
  | [], _, _, _, _, h, _, _ => by simp at h
  | _ :: _, [], _, _, _, _, h, _ => by simp at h
  | p :: P, w :: vs, 0, m, nd, h1, h2, hk => by
    simp at h1 h2; subst h1; subst h2
    show bindC kindOf ((p, w) :: P.zip vs) m p = _
    unfold bindC
    rw [bindC_out fun v hv => (List.nodup_cons.mp nd).1 (List.of_mem_zip hv).1, if_neg hk]
    simp
  | p :: P, w :: vs, i + 1, m, nd, h1, h2, hk => by
    show bindC kindOf ((p, w) :: P.zip vs) m x = _
    unfold bindC
    exact bindC_get (i := i) (List.nodup_cons.mp nd).2 (by simpa using h1) (by simpa using h2) hk
noncomputable def start (N : List Str) (vs : List V) : St := vs.map some ++ List.replicate (N.length - vs.length) none
noncomputable def cxOf (CX : CXT) (P : Program) (w : World) (K : PySem.W.Frag) (mg : Str → Option Value) (base : Heap) (N : List Str) (qual : Str) (scope : Scope) (f : Addr) (cd : Value) (A : Around) (outer : List Env) (s : Shared) (H : Hp) (E : XK) : Cx where
  prog := P
  w := w
  K := K
  mg := mg
  base := base
  A := A.deeper (envOfC qual scope s.heap.objs.size f cd)
  N := N
  s₀ := s
  H₀ := H
  env := envOfC qual scope s.heap.objs.size f cd
  outer := outer
  stack := envOfC qual scope s.heap.objs.size f cd :: outer
  ex := []
  calm := true
  fn := fun _ => true
  pn := []
  xe := fun e s' => wpAny (model P w) (A.deeper (envOfC qual scope s.heap.objs.size f cd)) (leaving (envOfC qual scope s.heap.objs.size f cd) e) (fun _ s'' => CX outer H s E e s'') (fun e' s'' => CX outer H s E e' s'') s'
theorem cell_has {sc : Scope} {n : Nat} {x : Str} (h : sc.names.lookup x = some .cell) : ∃ c, (cellsFrom n sc.names []).lookup x = some c := by
  have q := PySem.W.cellsFrom_some sc.names n [] (.inl h)
  exact Option.isSome_iff_exists.mp q
theorem inv_start {CX : CXT} {P : Program} {w : World} {K : PySem.W.Frag} {mg : Str → Option Value} {base : Heap} {N ps : List Str} {qual : Str} {scope : Scope} {f : Addr} {cd : Value} {A : Around} {outer : List Env} {s s1 : Shared} {H : Hp} {E : XK} {us : List Value} {vs : List V}
    (S : FnScope N ps scope) (hd : A.handled = none) (e0 : Env0 P w K mg base A outer s H) (hl : vs.length = ps.length) (r : Vals vs us)
    (x : InCallC s s.heap.objs.size (bindL (envOfC qual scope s.heap.objs.size f cd).kindOf (ps.zip us) fun _ => none) (cellsFrom (s.heap.objs.size + 1) scope.names []) (bindC (envOfC qual scope s.heap.objs.size f cd).kindOf (ps.zip us) fun _ => none) s1) :
    Inv (cxOf CX P w K mg base N qual scope f cd A outer s H E) [] (start N vs) H s1 := by
  have hpl : ps.length ≤ N.length := by have := congrArg List.length S.pre; rw [List.length_take] at this; omega
  obtain ⟨h1, tk, rfl, hk⟩ := x.done
  have noA : ∀ b : Addr, b ∉ (cxOf CX P w K mg base N qual scope f cd A outer s H E).ex := fun b z => absurd (show b ∈ ([] : List Addr) from z) (by simp)
  refine ⟨⟨e0.mod, S.kind, rfl, rfl, Nat.le_refl _, fun y z c h1 h2 => ?_, fun y hy => ?_, fun y c _ h => ?_, fun _ => hd, Around.frames_deeper e0.frames, .inr ⟨rfl, rfl⟩, fun b z => absurd z (noA b), e0.bs, e0.bsz, fun b _ _ => noA b, fun b z => absurd z (noA b), e0.funs, e0.frf⟩,
    rfl, e0.bare, Un.kept hk, ⟨_, x.toInCall.ns, fun i y v h1 h2 h3 => ?_⟩, fun y c h => ⟨_, x.cell y c h⟩, e0.hok.fresh (Nat.le_refl _), fun y c h => ?_, fun p hp => absurd (show p ∈ ([] : List (Addr × Obj)) from hp) (by simp), e0.hok.kept hk, ?_⟩
  · exact name_of_addr x.apart (PySem.mem_of_lookup h1) (PySem.mem_of_lookup h2)
  · have hy : scope.names.lookup y = some .cell ∨ scope.names.lookup y = some .free := hy
    rcases hy with hy | hy
    · exact cell_has hy
    · exact absurd rfl (S.nofree _ (PySem.mem_of_lookup hy))
  · exact Nat.le_of_lt (x.above y c (PySem.mem_of_lookup h))
  · have hi : i < vs.length := by
      unfold start at h2
      by_cases hi : i < vs.length
      · exact hi
      · rw [List.getElem?_append_right (by simpa using hi)] at h2
        rw [List.getElem?_replicate] at h2
        split at h2 <;> cases h2
    have ha : vs[i]? = some v := by
      unfold start at h2
      rw [List.getElem?_append_left (by simpa using hi), List.getElem?_map] at h2
      cases e : vs[i]? with
      | none => rw [e] at h2; cases h2
      | some a => rw [e] at h2; cases h2; rfl
    obtain ⟨u, hu, rv⟩ := r.get ha
    have hp : ps[i]? = some y := by
      rw [← S.pre, List.getElem?_take_of_lt (by omega)]; exact h1
    have ndP : ps.Nodup := by rw [← S.pre]; exact S.nd.sublist (List.take_sublist _ _)
    refine ⟨u, rv, ?_⟩
    rcases S.par y (List.mem_of_getElem? hp) with k | k
    · exact .inl ⟨k, bindL_get ndP hp hu k⟩
    · obtain ⟨c, e⟩ := cell_has (n := s.heap.objs.size + 1) k
      refine .inr ⟨.inl k, c, e, ?_⟩
      have q := x.cell y c e
      rw [bindC_get ndP hp hu (by show scope.names.lookup y ≠ _; rw [k]; decide)] at q
      exact q
  · exact e0.hok.fresh (Nat.le_of_lt (x.above y c (PySem.mem_of_lookup h)))
  · unfold start
    show _ = N.length
    rw [List.length_append, List.length_map, List.length_replicate]
    omega
theorem fn_of {CX : CXT} {P : Program} {w : World} {K : PySem.W.Frag} {mg : Str → Option Value} {base : Heap} {k : Nat} {f : Addr} {name qual : Str} {params : Arguments} {body : List Stmt} {scope : Scope} {dV kV doc pm cdv ct oc : Value} {an od : Option Addr}
    {osl : Array (Option Value)} {N ps : List Str} {sp : Sp} (lk : K.lookup f = some ⟨oc, od, .func (PySem.W.fnOf name qual params body scope dV kV doc pm an cdv ct), osl⟩) (hcd : PySem.W.codeIn K cdv qual = true) (S : FnScope N ps scope)
    (len : ∀ vs H Q E, sp vs H Q E → vs.length = ps.length)
    (hbody : ∀ (A : Around) (outer : List Env) (s : Shared) (H : Hp) (vs : List V) (Q : VK) (E : XK), Room k (A.deeper (envOfC qual scope s.heap.objs.size f cdv)) → sp vs H Q E →
      ∃ t, PSs (cxOf CX P w K mg base N qual scope f cdv A outer s H E) body t ∧ t { nx := fun _ H' => Q .non H', rt := Q } (start N vs) H) :
    FnOk P w K mg base CX (k + 1) f (PySem.W.fnOf name qual params body scope dV kV doc pm an cdv ct) ps sp := by
  refine ⟨len, fun A outer s H args us vs Q E hr e0 hb r hsp => ?_⟩
  have hl := len _ _ _ _ hsp
  have KX : K.In s.heap := e0.mod.kin.keeps fun b o e => (e0.bs b o e).1
  have lim : s.heap.NoLimit := e0.mod.nolimit.keeps fun b o e => (e0.bs b o e).1
  have hkind : ∀ y ∈ ps.zip us, scope.names.lookup y.1 = some .local ∨ (scope.names.lookup y.1 = some .cell ∧ ((cellsFrom (s.heap.objs.size + 1) scope.names []).lookup y.1).isSome = true) := fun ⟨n, v⟩ hy => by
    rcases S.par n (List.of_mem_zip hy).1 with q | q
    · exact .inl q
    · exact .inr ⟨q, PySem.W.cellsFrom_some _ _ _ (.inl q)⟩
  refine codeAny_call_function hr.depth (KX _ _ lk) rfl S.co S.gen rfl (PySem.W.codeRec_of KX hcd) (hb _ _ _ _ ?_)
  refine wpAny_newFunctionEnv_cells S.kind hkind fun env he s1 x => ?_
  subst he
  refine ⟨lim.keeps x.toInCall.keep, codeAny_func ?_⟩
  obtain ⟨t, ht, hq⟩ := hbody A outer s H vs Q E (hr.deeper _) hsp
  have I : Inv (cxOf CX P w K mg base N qual scope f cdv A outer s H E) [] (start N vs) H s1 := inv_start S hr.hd e0 hl r x
  refine wpAny_mono (ht [] s1 (start N vs) H _ I hq) (fun fl s' hs => ?_) fun e s' hs => hs
  have fin : ∀ {σ' : St} {H' : Hp} {v : V} {u : Value}, Inv (cxOf CX P w K mg base N qual scope f cdv A outer s H E) [] σ' H' s' → RelV v u → Q v H' → CE outer P w H s Q u s' :=
    fun {σ' H' v u} J rv q => ⟨v, H', J.os, J.bare, J.base, J.hok, rv, q⟩
  cases fl with
  | ret u =>
    obtain ⟨v, σ', H', J, rv, q⟩ := hs
    exact fin J rv q
  | next =>
    obtain ⟨σ', H', J, q⟩ := hs
    exact fin (v := V.non) (u := Value.none) J rfl q
  | brk =>
    obtain ⟨_, _, _, q⟩ := hs
    exact False.elim q
  | cont =>
    obtain ⟨_, _, _, q⟩ := hs
    exact False.elim q
end L2
namespace L2
open PySem PySem.Spec PyProof.Rows
section
variable {X : Cx} {x : Str} {p pos : Pos} {e : Expr} {es : List Expr} {t : TA} {id T : String} {r : List V → Hp → VK → Prop}
noncomputable def tCB (r : List V → Hp → VK → Prop) (t : TA) : TE := fun σ H Q => t σ H fun vs H1 => r vs H1 Q
theorem pe_callB (hc : CallR X (.builtin id) r) (hg : Gl X x) (hm : X.mg x = none) (hv : bootBuiltins x = some (.builtin id)) (ha : PA X (e :: es) t) (hn : x ≠ "__name__" := by decide) (hdb : (x == ("__debug__" : Str)) = false := by decide)
    (he : starEach (e :: es) X.env = (false, eval e X.env) :: starEach es X.env := by rfl) (hpl : (backTo pos (starEach es X.env)).any (·.1) = false := by rfl) : PE X (.Call (.Name x p) (e :: es) [] pos) (tCB r t) := by
  intro pins s σ H Q I h
  refine wpAny_Call_Name_kw (ld_blt I hg hm hv ?_ hn hdb)
  exact PyProof.Rows.callWith_builtin1 (thn (ha pos pins s σ H _ I h) fun us s1 ⟨vs, H1, I1, r1, q1⟩ => hc pins s1 σ H1 vs us Q I1 r1 q1) he hpl
theorem pe_callTy (hc : CallR X (.type T) r) (hg : Gl X x) (hm : X.mg x = none) (hv : bootBuiltins x = some (.type T)) (ha : PA X (e :: es) t) (hn : x ≠ "__name__" := by decide) (hdb : (x == ("__debug__" : Str)) = false := by decide)
    (he : starEach (e :: es) X.env = (false, eval e X.env) :: starEach es X.env := by rfl) (hpl : (backTo pos (starEach es X.env)).any (·.1) = false := by rfl) : PE X (.Call (.Name x p) (e :: es) [] pos) (tCB r t) := by
  intro pins s σ H Q I h
  refine wpAny_Call_Name_kw (ld_blt I hg hm hv ?_ hn hdb)
  exact PyProof.Rows.callWith_type1 (thn (ha pos pins s σ H _ I h) fun us s1 ⟨vs, H1, I1, r1, q1⟩ => hc pins s1 σ H1 vs us Q I1 r1 q1) he hpl
end
end L2
namespace HT
open PySem PyProof.Rows
section
open PySem.SeqAt
open PySem.AutoSeq1 (wpAny_loadPart')
open PySem.MeetsSeq PySem.MeetsSeq2 PySem.MeetsSeq3
end
section
variable {prog : Program} {w : World} {A : Around} {E : Value → Shared → Prop} {s : Shared}
theorem cat_tup {t b : Addr} {vs ws : List Value} {Q : Value → Shared → Prop} (ht : IsTup s.heap t vs.toArray) (hb : IsTup s.heap b ws.toArray) (hv : vs ≠ [])
    (h1 : ws = [] → Q (.ref t) s) (h2 : ws ≠ [] → Q (.ref s.heap.objs.size) { s with heap := s.heap.push { cls := .type "tuple", data := .seq (vs ++ ws).toArray } })
    (hsz : vs.length + ws.length ≤ sizeLine) : wpAny (model prog w) A (binaryOp .Add (.ref t) (.ref b)) Q E s := by
  obtain ⟨⟨cls, dd, data, sl⟩, ho, hc, n, hd⟩ := id ht
  obtain ⟨⟨cls2, dd2, data2, sl2⟩, ho2, hc2, n2, hd2⟩ := id hb
  simp only at hc hd hc2 hd2
  subst hc hd hc2 hd2
  have e : vs.toArray ++ ws.toArray = (vs ++ ws).toArray := by simp
  by_cases hw : ws = []
  · exact concat_meets ⟨_, ho, rfl⟩ ⟨_, ho2, rfl⟩ noFill_tuple_add seq_tuple_add PySem.F.slot_tuple_add PySem.F.entry_tuple_add (PySem.F.args_tuple_add_2 _ _)
      (tuple_addW1 t b vs.toArray ws.toArray n n2 dd dd2 sl sl2 (by simpa using hv) (by simp [hw])) ⟨ho, ho2, h1 hw⟩
  · refine concat_meets ⟨_, ho, rfl⟩ ⟨_, ho2, rfl⟩ noFill_tuple_add seq_tuple_add PySem.F.slot_tuple_add PySem.F.entry_tuple_add (PySem.F.args_tuple_add_2 _ _)
      (tuple_addW2 t b vs.toArray ws.toArray n n2 dd dd2 sl sl2 (by simpa using hv) (by simpa using hw) (by rw [List.size_toArray, List.size_toArray]; exact hsz)) ⟨ho, ho2, ?_⟩
    rw [e]
    exact h2 hw
noncomputable def sIx (n d : Nat) : Option Int → Nat
  | none => d
  | some v => if v < 0 then (v + (n : Int)).toNat else min v.toNat n
theorem sIx_le (n d : Nat) (hd : d ≤ n) (o : Option Int) : sIx n d o ≤ n := by
  cases o with
  | none => exact hd
  | some v =>
    show (if v < 0 then (v + (n : Int)).toNat else min v.toNat n) ≤ n
    by_cases hv : v < 0
    · rw [if_pos hv]; omega
    · rw [if_neg hv]; exact Nat.min_le_right _ _
theorem clip_eq (v : Int) (n d : Nat) : (if v < 0 then max (v + (n : Int)) 0 else min v (n : Int)) = ((sIx n d (some v) : Nat) : Int) := by
  show (if v < 0 then max (v + (n : Int)) 0 else min v (n : Int)) = (((if v < 0 then (v + (n : Int)).toNat else min v.toNat n) : Nat) : Int)
  by_cases hv : v < 0
  · simp only [if_pos hv]; omega
  · simp only [if_neg hv]; omega
theorem adjust_gen (lo hi : Option Int) (n : Nat) : Builtin.Slice.sliceAdjust lo hi 1 (n : Int) = (((sIx n 0 lo : Nat) : Int), ((sIx n n hi : Nat) : Int)) := by
  have h1 : ¬ ((1 : Int) < 0) := by omega
  unfold Builtin.Slice.sliceAdjust
  simp only [h1, if_false]
  refine Prod.ext ?_ ?_
  · cases lo with
    | none => rfl
    | some v => exact clip_eq v n 0
  · cases hi with
    | none => rfl
    | some v => exact clip_eq v n n
theorem places_gen (i j : Nat) : Builtin.Slice.slicePlaces (i : Int) (j : Int) 1 = j - i := by
  unfold Builtin.Slice.slicePlaces
  have h1 : (1 : Int) > 0 := by omega
  simp only [h1, if_true, Int.ediv_one]
  split <;> omega
theorem slicePart_ {v : Value} {o : Option Int} {Q : Option Int → Shared → Prop} (p : IsPart v o) (h : Q o s) : wpAny (model prog w) A (Builtin.Slice.slicePartIndex v) Q E s := by
  cases p with
  | none => exact slicePart_none h
  | int i t => exact slicePart_int h
theorem sliceApplied_gen {sl : Addr} {vl vu : Value} {lo hi : Option Int} {n : Nat} {Q : Int × Int × Nat → Shared → Prop} (hs : s.heap.IsSliceOf sl vl vu .none) (pl : IsPart vl lo) (pu : IsPart vu hi)
    (h : Q (((sIx n 0 lo : Nat) : Int), 1, sIx n n hi - sIx n 0 lo) s) : wpAny (model prog w) A (Builtin.Slice.sliceApplied (.ref sl) (pure (n : Int))) Q E s := by
  obtain ⟨os, hos, hcs, hds⟩ := id hs
  unfold Builtin.Slice.sliceApplied Builtin.Slice.sliceFields
  refine wpAny_bind (wpAny_bind (wpAny_field hos hds (x := vl) rfl (wpAny_bind (wpAny_field hos hds (x := vu) rfl (wpAny_bind (wpAny_field hos hds (x := .none) rfl (wpAny_pure ?_)))))))
  refine wpAny_bind (slicePart_none ?_)
  show wpAny _ _ (if ((1 : Int) == 0) = true then _ else _) _ _ s
  rw [if_neg (by decide)]
  refine wpAny_bind (slicePart_ pl (wpAny_bind (slicePart_ pu (wpAny_bind (wpAny_pure ?_)))))
  show wpAny _ _ (match Builtin.Slice.sliceAdjust lo hi 1 (n : Int) with | (lo, hi) => pure (lo, (1 : Int), Builtin.Slice.slicePlaces lo hi 1)) _ _ s
  rw [adjust_gen lo hi n]
  show wpAny _ _ (pure (((sIx n 0 lo : Nat) : Int), (1 : Int), Builtin.Slice.slicePlaces ((sIx n 0 lo : Nat) : Int) ((sIx n n hi : Nat) : Int) 1)) _ _ s
  rw [places_gen]
  exact wpAny_pure h
theorem pick_gen (xs : Array Value) (i k : Nat) : ((List.range k).filterMap fun (m : Nat) => xs[((i : Int) + (m : Int) * 1).toNat]?).toArray = ((xs.toList.drop i).take k).toArray := by
  have e : (fun (m : Nat) => xs[((i : Int) + (m : Int) * 1).toNat]?) = fun m => xs[i + m]? := by
    funext m
    have : ((i : Int) + (m : Int) * 1).toNat = i + m := by omega
    rw [this]
  rw [e]
  have := pick_run xs i k
  rw [List.filterMap_map] at this
  have e2 : ((fun x => xs[x]?) ∘ fun x => i + x) = fun m => xs[i + m]? := rfl
  rw [e2] at this
  rw [this]
theorem getItem_tuple_cut {t sl : Addr} {items : Array Value} {vl vu : Value} {lo hi : Option Int} {Q : Value → Shared → Prop} (ht : IsTup s.heap t items) (hs : s.heap.IsSliceOf sl vl vu .none) (pl : IsPart vl lo) (pu : IsPart vu hi)
    (hw : ¬ (sIx items.size 0 lo = 0 ∧ sIx items.size items.size hi = items.size))
    (h : Q (.ref s.heap.objs.size) { s with heap := s.heap.push { cls := .type "tuple", data := .seq ((items.toList.drop (sIx items.size 0 lo)).take (sIx items.size items.size hi - sIx items.size 0 lo)).toArray } })
    (hsz : items.size ≤ sizeLine) : wpAny (model prog w) A (getItem (.ref t) (.ref sl)) Q E s := by
  have htake : sizeOk (.seq ((items.toList.drop (sIx items.size 0 lo)).take (sIx items.size items.size hi - sIx items.size 0 lo)).toArray) := by
    show ((items.toList.drop (sIx items.size 0 lo)).take (sIx items.size items.size hi - sIx items.size 0 lo)).toArray.size ≤ sizeLine
    rw [List.size_toArray, List.length_take, List.length_drop, Array.length_toList]
    omega
  have hj : sIx items.size items.size hi ≤ items.size := sIx_le _ _ (Nat.le_refl _) hi
  obtain ⟨os, hos, hcs, hds⟩ := id hs
  have hTs : s.TypeIs (.ref sl) "slice" := ⟨os, hos, hcs⟩
  unfold getItem
  try with_reducible refine wpAny_holding ?_
  first | refine wpAny_bind (wpAny_pure ?_) | skip
  refine wpAny_bind (wpAny_sequenceKey ht.typeIs (by decide) ?_)
  refine wpAny_bind (wpAny_callSpecial?_slot (name := Str.ofString "__getitem__") ht.typeIs PyProof.Rows.slot_tuple_getitem
    (wpAny_call_entry PyProof.Rows.slot_tuple_getitem ht.typeIs entry_tuple_getitem ?_ (args_tuple_getitem _ _)))
  show wpAny _ _ (Builtin.Tuple.tupleItemsOf (.ref t) >>= _) _ _ s
  refine wpAny_bind (tupleItemsOf_ ht ?_)
  refine wpAny_bind (wpAny_typeOf hTs ?_)
  rw [if_pos (by decide)]
  refine wpAny_bind (sliceApplied_gen hs pl pu ?_)
  have hno : ¬ ((((sIx items.size 0 lo : Nat) : Int) == 0 && (1 : Int) == 1 && (sIx items.size items.size hi - sIx items.size 0 lo) == items.size) = true) := by
    intro q
    rw [Bool.and_eq_true, Bool.and_eq_true] at q
    have q1 : ((sIx items.size 0 lo : Nat) : Int) = 0 := eq_of_beq q.1.1
    have q2 : sIx items.size items.size hi - sIx items.size 0 lo = items.size := eq_of_beq q.2
    exact hw ⟨by omega, by omega⟩
  show wpAny _ _ (if (((sIx items.size 0 lo : Nat) : Int) == 0 && (1 : Int) == 1 && (sIx items.size items.size hi - sIx items.size 0 lo) == items.size) = true then _ else _) _ _ s
  rw [if_neg hno, pick_gen]
  first
    | exact wpAny_bind (m := Builtin.Tuple.tupleExact _) (wpAny_newObj_type (wpAny_pure ⟨_, rfl, wpAny_pure h⟩) htake)
    | exact wpAny_bind (m := Builtin.Tuple.tupleExact _) (wpAny_newObj_type (wpAny_bind (wpAny_pure (wpAny_pure ⟨_, rfl, wpAny_pure h⟩))) htake)
    | exact wpAny_bind (wpAny_bind (m := Builtin.Tuple.tupleExact _) (wpAny_newObj_type (wpAny_pure (wpAny_pure ⟨_, rfl, wpAny_pure h⟩)) htake))
    | exact wpAny_bind (wpAny_bind (m := Builtin.Tuple.tupleExact _) (wpAny_newObj_type (wpAny_pure ⟨_, rfl, wpAny_pure h⟩) htake))
end
end HT
namespace L2
open PySem PySem.Spec PyProof.Rows
noncomputable abbrev TO := St → Hp → (Option Int → Hp → Prop) → Prop
noncomputable def PO (X : Cx) (e : Option Expr) (t : TO) : Prop :=
  ∀ (pins : List (Addr × Obj)) (s : Shared) (σ : St) (H : Hp) (Q : Option Int → Hp → Prop), Inv X pins σ H s → t σ H Q →
    wpAny (model X.prog X.w) X.A (evalPart e X.env) (fun u s' => ∃ o H', Inv X pins σ H' s' ∧ IsPart u o ∧ Q o H') X.xe s
noncomputable def tNoPart : TO := fun _ H Q => Q none H
noncomputable def tPart (t : TE) : TO := fun σ H Q => t σ H fun x H1 => ∃ i, x = .int i ∧ Q (some i) H1
section
variable {X : Cx} {e : Expr} {te : TE} {lo hi : Option Expr} {tl th : TO} {pos p2 : Pos}
theorem po_none : PO X none tNoPart := by
  intro pins s σ H Q I h
  rw [evalPart_none]
  exact wpAny_pure ⟨none, H, I, .none, h⟩
theorem po_some (h : PE X e te) : PO X (some e) (tPart te) := by
  intro pins s σ H Q I hw
  rw [evalPart_some]
  refine thn (h pins s σ H _ I hw) fun u s1 ⟨x, H1, I1, r1, q1⟩ => ?_
  obtain ⟨i, rfl, q⟩ := q1
  obtain ⟨t, rfl⟩ := r1
  exact ⟨some i, H1, I1, .int i t, q⟩
noncomputable def SlR (X : Cx) (r : V → Option Int → Option Int → Hp → VK → Prop) : Prop :=
  ∀ (pins : List (Addr × Obj)) (s : Shared) (σ : St) (H : Hp) (x : V) (v vl vu : Value) (lo hi : Option Int) (sl : Addr) (Q : VK), Inv X pins σ H s → RelV x v → s.heap.IsSliceOf sl vl vu .none → IsPart vl lo → IsPart vu hi → r x lo hi H Q →
    ∃ T id, typeLookup (.type T) "__getitem__" = pure (some (.builtin id)) ∧ s.TypeIs v T ∧ wpAny (model X.prog X.w) X.A (getItem v (.ref sl)) (EP X pins σ Q) X.xe s
theorem SlR.or {r r' : V → Option Int → Option Int → Hp → VK → Prop} (h : SlR X r) (h' : SlR X r') : SlR X (fun x lo hi H Q => r x lo hi H Q ∨ r' x lo hi H Q) := by
  intro pins s σ H x v vl vu lo hi sl Q I rx hs pl pu q
  rcases q with q | q
  · exact h pins s σ H x v vl vu lo hi sl Q I rx hs pl pu q
  · exact h' pins s σ H x v vl vu lo hi sl Q I rx hs pl pu q
noncomputable def tSl (r : V → Option Int → Option Int → Hp → VK → Prop) (te : TE) (tl th : TO) : TE := fun σ H Q => te σ H fun x H1 => tl σ H1 fun l H2 => th σ H2 fun u H3 => r x l u H3 Q
theorem pe_slice {r : V → Option Int → Option Int → Hp → VK → Prop} (hr : SlR X r) (he : PE X e te) (hl : PO X lo tl) (hu : PO X hi th) : PE X (.Subscript e (.Slice lo hi none p2) pos) (tSl r te tl th) := by
  intro pins s σ H Q I h
  refine Subscript_ (thn (he pins s σ H _ I h) fun v s1 ⟨x, H1, I1, r1, q1⟩ => ?_)
  refine wpAny_Slice (thn (hl pins s1 σ H1 _ I1 q1) fun vl s2 ⟨l, H2, I2, pl, q2⟩ => thn (hu pins s2 σ H2 _ I2 q2) fun vu s3 ⟨u, H3, I3, pu, q3⟩ => ?_)
  rw [evalPart_none]
  refine wpAny_pure ?_
  have I4 : Inv X pins σ H3 { s3 with heap := s3.heap.push { cls := .type "slice", data := .fields #[vl, vu, .none] } } := I3.kept (t' := s3.toks) fun b ob q => Heap.get?_push_of_some _ q
  obtain ⟨T, id, hT, ht, hg⟩ := hr pins { s3 with heap := s3.heap.push { cls := .type "slice", data := .fields #[vl, vu, .none] } } σ H3 x v vl vu l u s3.heap.objs.size Q I4 r1 (Heap.IsSliceOf.new ..) pl pu q3
  show wpAny (model X.prog X.w) X.A (subscriptTail e (.Slice lo hi none p2) v (.ref s3.heap.objs.size)) (EP X pins σ Q) X.xe { s3 with heap := s3.heap.push { cls := .type "slice", data := .fields #[vl, vu, .none] } }
  exact tail_any (ops := [.ref s3.heap.objs.size, v]) ht hT hg (by with_unfolding_all rfl)
noncomputable def cutV (xs : List V) (lo hi : Option Int) : List V := (xs.drop (HT.sIx xs.length 0 lo)).take (HT.sIx xs.length xs.length hi - HT.sIx xs.length 0 lo)
theorem cutV_length (xs : List V) (lo hi : Option Int) : (cutV xs lo hi).length ≤ xs.length := by
  unfold cutV
  rw [List.length_take, List.length_drop]
  omega
noncomputable def rSlT (K : PySem.W.Frag) : V → Option Int → Option Int → Hp → VK → Prop := fun x lo hi H Q => ∃ a xs, x = .ref a ∧ SqT K H a xs ∧
  ¬ (HT.sIx xs.length 0 lo = 0 ∧ HT.sIx xs.length xs.length hi = xs.length) ∧ ∀ p, H p = none → Q (.ref p) (upd H p (.tup (cutV xs lo hi)))
theorem sl_tup : SlR X (rSlT X.K) := by
  intro pins s σ H x v vl vu lo hi sl Q I rx hs pl pu h
  obtain ⟨a, xs, rfl, hx, hw, q⟩ := h
  cases rx
  obtain ⟨its, r, ht, hz⟩ := I.tuple hx
  have hlen : its.toArray.size = xs.length := by rw [List.size_toArray]; exact r.length.symm
  refine ⟨"tuple", _, PyProof.Rows.slot_tuple_getitem.lookup, ht.typeIs, ?_⟩
  refine HT.getItem_tuple_cut ht hs pl pu (by rw [hlen]; exact hw) ?_ (by rw [hlen]; exact hz)
  rw [hlen]
  refine ⟨.ref s.heap.objs.size, _, I.laid (t' := s.toks) (o := .tup (cutV xs lo hi)) (fun b ob q => Heap.get?_push_of_some _ q) (Nat.le_refl _) ?_, rfl, q _ (I.hok.fresh (Nat.le_refl _))⟩
  exact ⟨Nat.le_trans (cutV_length xs lo hi) hz, _, (r.drop (HT.sIx xs.length 0 lo)).take (HT.sIx xs.length xs.length hi - HT.sIx xs.length 0 lo), IsTupN.new _ _⟩
noncomputable def rCatT (K : PySem.W.Frag) : R2 := fun x y H Q => ∃ a b xs ys, x = .ref a ∧ y = .ref b ∧ SqT K H a xs ∧ SqT K H b ys ∧ xs ≠ [] ∧ xs.length + ys.length ≤ sizeLine ∧
  (ys = [] → Q (.ref a) H) ∧ (ys ≠ [] → ∀ p, H p = none → Q (.ref p) (upd H p (.tup (xs ++ ys))))
theorem Vals.nil_iff {xs : List V} {us : List Value} (r : Vals xs us) : us = [] ↔ xs = [] := by
  cases r with
  | nil => simp
  | cons _ _ => simp
theorem op_catT : OpR X (binaryOp .Add) (rCatT X.K) := by
  intro pins s σ H x y v u Q I rx ry h
  obtain ⟨a, b, xs, ys, rfl, rfl, ha, hb, hx, hz, q1, q2⟩ := h
  cases rx
  cases ry
  obtain ⟨its, r1, p1, _⟩ := I.tuple ha
  obtain ⟨its2, r2, p2, _⟩ := I.tuple hb
  refine HT.cat_tup p1 p2 (fun z => hx (r1.nil_iff.mp z)) (fun z => ⟨.ref a, H, I, rfl, q1 (r2.nil_iff.mp z)⟩) (fun z => ?_) (by rw [← r1.length, ← r2.length]; exact hz)
  refine ⟨.ref s.heap.objs.size, _, I.laid (t' := s.toks) (o := .tup (xs ++ ys)) (fun b ob q => Heap.get?_push_of_some _ q) (Nat.le_refl _) ?_, rfl, q2 (fun w => z (r2.nil_iff.mpr w)) _ (I.hok.fresh (Nat.le_refl _))⟩
  exact ⟨by rw [List.length_append]; exact hz, _, r1.append r2, IsTupN.new _ _⟩
end
end L2
namespace L2
open PySem PySem.Spec PyProof.Rows
noncomputable def ixN (n : Nat) (i : Int) : Option Nat := if 0 ≤ i then (if i < n then some i.toNat else none) else if -(n : Int) ≤ i then some (i + n).toNat else none
noncomputable def atI {α : Type} (xs : List α) (i : Int) : Option α := (ixN xs.length i).bind fun j => xs[j]?
theorem ixN_seq {n : Nat} {i : Int} {j : Nat} (h : ixN n i = some j) : seqIndex? i n = some j ∧ j < n ∧ -(n : Int) ≤ i ∧ i < n := by
  unfold ixN at h
  by_cases h0 : 0 ≤ i
  · rw [if_pos h0] at h
    by_cases h1 : i < n
    · rw [if_pos h1] at h
      have e : i.toNat = j := Option.some.inj h
      exact ⟨by rw [seqIndex_of h0 h1, e], by omega, by omega, h1⟩
    · rw [if_neg h1] at h; cases h
  · rw [if_neg h0] at h
    by_cases h1 : -(n : Int) ≤ i
    · rw [if_pos h1] at h
      have e : (i + n).toNat = j := Option.some.inj h
      exact ⟨by rw [seqIndex_neg (by omega) h1, e], by omega, h1, by omega⟩
    · rw [if_neg h1] at h; cases h
theorem atI_get {α : Type} {xs : List α} {i : Int} {v : α} (h : atI xs i = some v) : ∃ j, seqIndex? i xs.length = some j ∧ xs[j]? = some v ∧ j < xs.length ∧ -(xs.length : Int) ≤ i ∧ i < xs.length := by
  unfold atI at h
  cases e : ixN xs.length i with
  | none => rw [e] at h; cases h
  | some j =>
    rw [e] at h
    obtain ⟨h1, h2, h3, h4⟩ := ixN_seq e
    exact ⟨j, h1, h, h2, h3, h4⟩
noncomputable def PlainIx (b : Expr) : Prop := ∀ o i, subscripted b false o i = operate [o, i] (getItem o i)
noncomputable def IxR (X : Cx) (r : R2) : Prop :=
  ∀ (value slice : Expr) (pins : List (Addr × Obj)) (s : Shared) (σ : St) (H : Hp) (x y : V) (v u : Value) (Q : VK), Inv X pins σ H s → RelV x v → RelV y u → r x y H Q →
    subscripted slice false v u = operate [v, u] (getItem v u) → wpAny (model X.prog X.w) X.A (subscriptTail value slice v u) (EP X pins σ Q) X.xe s
noncomputable def MtR (X : Cx) (id : String) (r : V → List V → Hp → VK → Prop) : Prop :=
  ∀ (pins : List (Addr × Obj)) (s : Shared) (σ : St) (H : Hp) (x : V) (xs : List V) (v : Value) (us : List Value) (Q : VK), Inv X pins σ H s → RelV x v → Vals xs us → r x xs H Q →
    wpAny (model X.prog X.w) X.A (call (.builtin id) (v :: us)) (EP X pins σ Q) X.xe s
section
variable {X : Cx} {a b : Expr} {ta tb : TE} {pos : Pos}
theorem IxR.or {r r' : R2} (h : IxR X r) (h' : IxR X r') : IxR X (fun x y H Q => r x y H Q ∨ r' x y H Q) := by
  intro value slice pins s σ H x y v u Q I rx ry q hs
  rcases q with q | q
  · exact h value slice pins s σ H x y v u Q I rx ry q hs
  · exact h' value slice pins s σ H x y v u Q I rx ry q hs
theorem pe_ix {r : R2} (hr : IxR X r) (ha : PE X a ta) (hb : PE X b tb) (hs : PlainIx b) : PE X (.Subscript a b pos) (tOp r ta tb) := by
  intro pins s σ H Q I h
  exact Subscript_ (binT ha hb I h fun v u s2 x y H2 I2 rx ry q => hr a b pins s2 σ H2 x y v u Q I2 rx ry q (hs _ _))
noncomputable def rIxL (K : PySem.W.Frag) : R2 := fun x y H Q => ∃ p xs i v, x = .ref p ∧ y = .int i ∧ SqL K H p xs ∧ atI xs i = some v ∧ Q v H
noncomputable def rIxT (K : PySem.W.Frag) : R2 := fun x y H Q => ∃ p xs i v, x = .ref p ∧ y = .int i ∧ SqT K H p xs ∧ atI xs i = some v ∧ Q v H
noncomputable def rIxS : R2 := fun x y H Q => ∃ z i c, x = .str z ∧ y = .int i ∧ z.length ≤ sizeLine ∧ atI z.cps.toList i = some c ∧ Q (.str ⟨#[c]⟩) H
theorem ix_list : IxR X (rIxL X.K) := by
  intro value slice pins s σ H x y v u Q I rx ry h hs
  obtain ⟨p, xs, i, z, rfl, rfl, hq, he, q⟩ := h
  cases rx
  obtain ⟨t, rfl⟩ := ry
  obtain ⟨its, r, pl, hz⟩ := I.list hq
  obtain ⟨j, h1, h2, h3, h4, h5⟩ := atI_get he
  obtain ⟨w, ew, rw'⟩ := r.get h2
  have hl := r.length
  have hn := line63
  have fin : EP X pins σ Q w s := ⟨z, H, I, rw', q⟩
  by_cases h0 : 0 ≤ i
  · have hj : i.toNat = j := by
      rw [seqIndex_of h0 h5] at h1
      exact Option.some.inj h1
    exact item_listR pl.isList h0 (by omega) (by rw [hj]; simpa using ew) fin hs
  · have hj : (i + (its.toArray.size : Int)).toNat = j := by
      rw [seqIndex_neg (by omega) h4] at h1
      rw [List.size_toArray, ← hl]
      exact Option.some.inj h1
    exact subscriptTail_builtinR (x := w) pl.isList.typeIs slot_list_getitem.lookup
      (wpAny_getItem_list_neg (Q := fun r s' => r = w ∧ EP X pins σ Q r s') pl.isList (by omega) (by rw [List.size_toArray] <;> omega) (by omega) (by rw [hj]; simpa using ew) ⟨rfl, fin⟩) hs
theorem ix_tup : IxR X (rIxT X.K) := by
  intro value slice pins s σ H x y v u Q I rx ry h hs
  obtain ⟨p, xs, i, z, rfl, rfl, hq, he, q⟩ := h
  cases rx
  obtain ⟨t, rfl⟩ := ry
  obtain ⟨its, r, pl, hz⟩ := I.tuple hq
  obtain ⟨j, h1, h2, h3, h4, h5⟩ := atI_get he
  obtain ⟨w, ew, rw'⟩ := r.get h2
  have hl := r.length
  have hn := line63
  have fin : EP X pins σ Q w s := ⟨z, H, I, rw', q⟩
  exact subscriptTail_builtinR (x := w) pl.typeIs slot_tuple_getitem.lookup
    (getItem_tuple (j := j) (Q := fun r s' => r = w ∧ EP X pins σ Q r s') pl (by omega) (by omega) (by rw [List.size_toArray, ← hl]; exact h1) (by simpa using ew) ⟨rfl, fin⟩) hs
theorem ix_str : IxR X rIxS := by
  intro value slice pins s σ H x y v u Q I rx ry h hs
  obtain ⟨z, i, c, rfl, rfl, hz, he, q⟩ := h
  obtain ⟨t, rfl⟩ := rx
  obtain ⟨t', rfl⟩ := ry
  obtain ⟨j, h1, h2, h3, h4, h5⟩ := atI_get he
  have hl : z.cps.toList.length = z.length := by simp [Str.length]
  rw [hl] at h1 h4 h5
  have hn := line63
  exact tail_any (typeIs_str s z t) slot_str_getitem.lookup (getItem_str (c := c) (by
    have e1 : decide (i < -(2 ^ 63 : Int)) = false := decide_eq_false (by omega)
    have e2 : decide (i ≥ 2 ^ 63) = false := decide_eq_false (by omega)
    rw [e1, e2, Bool.or_false]) (by rw [h1]; simpa using h2) ⟨.str ⟨#[c]⟩, H, I.tok _, ⟨_, rfl⟩, q⟩) hs
noncomputable def rIx (K : PySem.W.Frag) : R2 := fun x y H Q => rIxL K x y H Q ∨ rIxT K x y H Q ∨ rIxS x y H Q
theorem ix_seq : IxR X (rIx X.K) := ix_list.or (ix_tup.or ix_str)
theorem slice_bounds (lo hi : Option Int) (n : Nat) : (sliceBounds lo hi none n).1 = ((HT.sIx n 0 lo : Nat) : Int) ∧ (sliceBounds lo hi none n).2.1 = ((HT.sIx n n hi : Nat) : Int) ∧ (sliceBounds lo hi none n).2.2 = 1 := by
  refine ⟨?_, ?_, rfl⟩
  · cases lo with
    | none => simp [sliceBounds, HT.sIx]
    | some i =>
      simp only [sliceBounds, HT.sIx, Option.getD_none, show (1 : Int) > 0 by decide, if_true]
      by_cases h : i < 0
      · simp only [h, if_true] <;> omega
      · simp only [h, if_false] <;> omega
  · cases hi with
    | none => simp [sliceBounds, HT.sIx]
    | some i =>
      simp only [sliceBounds, HT.sIx, Option.getD_none, show (1 : Int) > 0 by decide, if_true]
      by_cases h : i < 0
      · simp only [h, if_true] <;> omega
      · simp only [h, if_false] <;> omega
theorem slicePick_cut (its : List Value) (lo hi : Option Int) : slicePick its.toArray lo hi none = ((its.drop (HT.sIx its.length 0 lo)).take (HT.sIx its.length its.length hi - HT.sIx its.length 0 lo)).toArray := by
  obtain ⟨h1, h2, h3⟩ := slice_bounds lo hi its.toArray.size
  unfold slicePick
  rw [h1, h2, h3]
  simp only [sliceRange_one, pick_run, List.size_toArray] <;> rfl
noncomputable def rSlL (K : PySem.W.Frag) : V → Option Int → Option Int → Hp → VK → Prop := fun x lo hi H Q => ∃ a xs, x = .ref a ∧ SqL K H a xs ∧ ∀ p, H p = none → Q (.ref p) (upd H p (.lst (cutV xs lo hi)))
theorem sl_list : SlR X (rSlL X.K) := by
  intro pins s σ H x v vl vu lo hi sl Q I rx hs pl pu h
  obtain ⟨a, xs, rfl, hx, q⟩ := h
  cases rx
  obtain ⟨its, r, ht, hz⟩ := I.list hx
  have hlen := r.length
  refine ⟨"list", _, slot_list_getitem.lookup, ht.isList.typeIs, ?_⟩
  refine wpAny_getItem_list_slice ht.isList hs pl pu .none (by simp) ?_ (by rw [List.size_toArray] <;> omega)
  rw [slicePick_cut, ← hlen]
  refine ⟨.ref s.heap.objs.size, _, I.laid (t' := s.toks) (o := .lst (cutV xs lo hi)) (fun b ob q => Heap.get?_push_of_some _ q) (Nat.le_refl _) ?_, rfl, q _ (I.hok.fresh (Nat.le_refl _))⟩
  exact ⟨Nat.le_trans (cutV_length xs lo hi) hz, _, 0, (r.drop (HT.sIx xs.length 0 lo)).take (HT.sIx xs.length xs.length hi - HT.sIx xs.length 0 lo), Heap.get?_push_size _ rfl⟩
theorem CallR.or {f : Value} {r r' : List V → Hp → VK → Prop} (h : CallR X f r) (h' : CallR X f r') : CallR X f (fun xs H Q => r xs H Q ∨ r' xs H Q) := by
  intro pins s σ H xs us Q I rs q
  rcases q with q | q
  · exact h pins s σ H xs us Q I rs q
  · exact h' pins s σ H xs us Q I rs q
theorem call_tuple_of : CallR X (.type "tuple") (fun xs H Q => ∃ p ys, xs = [.ref p] ∧ ((SqL X.K H p ys ∧ ∀ l, H l = none → Q (.ref l) (upd H l (.tup ys))) ∨ (SqT X.K H p ys ∧ Q (.ref p) H))) := by
  intro pins s σ H xs us Q I r h
  obtain ⟨p, ys, rfl, h⟩ := h
  obtain ⟨u, rfl, rx⟩ := vals1 r
  cases rx
  rcases h with ⟨hq, q⟩ | ⟨hq, q⟩
  · obtain ⟨its, r', pl, hz⟩ := I.list hq
    have hlen := r'.length
    refine call_tuple_list pl.isList (fun h' kp => ?_) (by simp only [List.size_toArray] <;> omega)
    have I1 : Inv X pins σ H { s with heap := h' } := I.kept (t' := s.toks) kp
    have I2 : Inv X pins σ (upd H h'.objs.size (.tup ys)) { s with heap := h'.push { cls := .type "tuple", data := .seq its.toArray } } :=
      I1.laid (t' := s.toks) (fun b o e => Heap.get?_push_of_some _ e) (Nat.le_refl _) (show ObjOk X.prog X.w _ _ _ (.tup ys) from ⟨hz, its, r', IsTupN.new _ _⟩)
    exact ⟨.ref h'.objs.size, _, I2, rfl, q _ (I1.hok.fresh (Nat.le_refl _))⟩
  · obtain ⟨its, r', pl, hz⟩ := I.tuple hq
    exact call_tuple_same pl ⟨.ref p, H, I, rfl, q⟩
noncomputable def tyV (K : PySem.W.Frag) (T : String) (x : V) (H : Hp) : Prop := match x with
  | .str _ => T = "str"
  | .int _ => T = "int"
  | .ref p => (T = "list" ∧ ∃ xs, SqL K H p xs) ∨ (T = "tuple" ∧ ∃ o, K.lookup p = some o ∧ o.cls = .type "tuple" ∧ o.dict = none) ∨
      (T = "dict" ∧ ((∃ kvs, H p = some (.dK kvs)) ∨ ∃ kvs, H p = some (.dT kvs))) ∨ (T = "set" ∧ ∃ S n, H p = some (.set S n))
  | _ => False
theorem tyV_is {pins : List (Addr × Obj)} {σ : St} {H : Hp} {s : Shared} {T : String} {x : V} {v : Value} (I : Inv X pins σ H s) (r : RelV x v) (ty : tyV X.K T x H) :
    s.TypeIs v T ∧ ∀ a, v = .ref a → ∃ ob, s.heap.get? a = some ob ∧ ob.dict = none := by
  cases x with
  | str z =>
    obtain ⟨t, rfl⟩ := r
    cases (show T = "str" from ty)
    exact ⟨typeIs_str s z t, fun _ e => nomatch e⟩
  | int i =>
    obtain ⟨t, rfl⟩ := r
    cases (show T = "int" from ty)
    exact ⟨typeIs_int s i t, fun _ e => nomatch e⟩
  | ref p =>
    cases r
    rcases ty with ⟨rfl, xs, hq⟩ | ⟨rfl, o, hk, hc, hd⟩ | ⟨rfl, hk⟩ | ⟨rfl, S, n, hk⟩
    · obtain ⟨its, _, pl, _⟩ := I.list hq
      refine ⟨pl.isList.typeIs, fun a e => ?_⟩
      cases e
      obtain ⟨o, n, e, c, hd, _⟩ := pl
      exact ⟨o, e, hd⟩
    · refine ⟨⟨o, I.kIn p o hk, hc⟩, fun a e => ?_⟩
      cases e
      exact ⟨o, I.kIn _ o hk, hd⟩
    · have z : ∃ o, s.heap.get? p = some o ∧ o.ExactDict := by
        rcases hk with ⟨kvs, hk⟩ | ⟨kvs, hk⟩
        · obtain ⟨_, _, _, _, o, _, _, e, ex, _⟩ := I.hok p _ hk
          exact ⟨o, e, ex⟩
        · obtain ⟨_, _, _, _, o, _, _, e, ex, _⟩ := I.hok p _ hk
          exact ⟨o, e, ex⟩
      obtain ⟨o, e, ex⟩ := z
      refine ⟨⟨o, e, ex.1⟩, fun a e2 => ?_⟩
      cases e2
      exact ⟨o, e, ex.2.1⟩
    · obtain ⟨o, _, _, _, e, ex, _⟩ := I.hok p _ hk
      refine ⟨⟨o, e, ex.1⟩, fun a e2 => ?_⟩
      cases e2
      exact ⟨o, e, ex.2.1⟩
  | _ => exact False.elim ty
noncomputable def tBM0 (K : PySem.W.Frag) (T : String) (r : V → List V → Hp → VK → Prop) (to : TE) : TE := fun σ H Q => to σ H fun x H1 => tyV K T x H1 ∧ r x [] H1 Q
noncomputable def tBM (K : PySem.W.Frag) (T : String) (r : V → List V → Hp → VK → Prop) (to : TE) (t : TA) : TE := fun σ H Q => to σ H fun x H1 => tyV K T x H1 ∧ t σ H1 fun xs H2 => r x xs H2 Q
variable {o e : Expr} {es : List Expr} {to : TE} {t : TA} {name : Str} {apos cpos : Pos} {T id : String} {r : V → List V → Hp → VK → Prop}
theorem pe_bm0 (pa : PlainAttrs T) (slot : Slot T name id) (hty : typeOf (.builtin id) = pure (.type "method_descriptor")) (hm : MtR X id r) (ho : PE X o to)
    (hbase : attributeBase o name X.env (eval o X.env) = eval o X.env := by rfl) (hline : (apos.endLine == cpos.line) = true := by rfl) : PE X (.Call (.Attribute o name apos) [] [] cpos) (tBM0 X.K T r to) := by
  intro pins s σ H Q I h
  refine wpAny_Call_method0_late hbase hline (thn (ho pins s σ H _ I h) fun v s1 ⟨x, H1, I1, r1, ty, q1⟩ => ?_)
  obtain ⟨h1, h2⟩ := tyV_is I1 r1 ty
  exact ⟨T, id, pa, slot, hty, h1, h2, Calls.callWith_builtin rfl (PySem.evalArgs_none (hm pins s1 σ H1 x [] v [] Q I1 r1 .nil q1))⟩
theorem pe_bm (pa : PlainAttrs T) (slot : Slot T name id) (hty : typeOf (.builtin id) = pure (.type "method_descriptor")) (hm : MtR X id r) (ho : PE X o to) (ha : PA X (e :: es) t)
    (hbase : attributeBase o name X.env (eval o X.env) = eval o X.env := by rfl)
    (hfew : ((backTo cpos (starEach (e :: es) X.env)).all (fun x => !x.1) && (backToKw cpos (keywordEach [] X.env)).all (fun x => x.1.isSome)
      && decide ((e :: es).length + ([] : List Keyword).length + (if ([] : List Keyword).isEmpty then 0 else 1) < 30)) = true := by rfl)
    (hline : (apos.endLine == cpos.line) = true := by rfl) (hs : starEach (e :: es) X.env = (false, eval e X.env) :: starEach es X.env := by rfl) (hplain : (backTo cpos (starEach es X.env)).any (·.1) = false := by rfl) :
    PE X (.Call (.Attribute o name apos) (e :: es) [] cpos) (tBM X.K T r to t) := by
  intro pins s σ H Q I h
  refine wpAny_Call_method_late hbase hfew hline rfl (thn (ho pins s σ H _ I h) fun v s1 ⟨x, H1, I1, r1, ty, q1⟩ => ?_)
  obtain ⟨h1, h2⟩ := tyV_is I1 r1 ty
  refine ⟨T, id, pa, slot, hty, h1, h2, ?_⟩
  have hA := ha cpos pins s1 σ H1 _ I1 q1
  rw [hs] at hA ⊢
  refine Calls.callWith_builtin (by show (false || (backTo cpos (starEach es X.env)).any (·.1)) = false; rw [hplain] <;> rfl) (Calls.evalArgs_plain ?_)
  exact thn hA fun us s2 ⟨vs, H2, I2, r2, q2⟩ => hm pins s2 σ H2 x vs v us Q I2 r1 r2 q2
end
end L2
namespace L2
open PySem PySem.Spec PyProof.Rows
noncomputable def MtM (X : Cx) (id : String) (r : V → List V → Hp → VK → Prop) : Prop :=
  ∀ (pins : List (Addr × Obj)) (s : Shared) (σ : St) (H : Hp) (x : V) (xs : List V) (v : Value) (us : List Value) (Q : VK), Inv X pins σ H s → RelV x v → Vals xs us → r x xs H Q →
    wpAny (model X.prog X.w) X.A (call (.builtin id) (v :: us)) (EP X pins σ Q) X.xe s
theorem Vals.one : ∀ {x : V} {us : List Value}, Vals [x] us → ∃ u, us = [u] ∧ RelV x u
  | _, _, .cons r .nil => ⟨_, rfl, r⟩
theorem Vals.rep {xs : List V} {us : List Value} (h : Vals xs us) : ∀ k : Nat, Vals (List.replicate k xs).flatten (List.replicate k us).flatten
  | 0 => .nil
  | k + 1 => by
    rw [List.replicate_succ, List.replicate_succ, List.flatten_cons, List.flatten_cons]
    exact Vals.append h (Vals.rep h k)
theorem foldl_rep (its : List Value) : ∀ (k : Nat) (acc : List Value),
    List.foldl (fun x1 x2 => x1 ++ x2) acc.toArray (List.replicate k its.toArray) = (acc ++ (List.replicate k its).flatten).toArray
  | 0, acc => by simp
  | k + 1, acc => by
    have e : acc.toArray ++ its.toArray = (acc ++ its).toArray := by simp
    have e2 : (acc ++ its) ++ (List.replicate k its).flatten = acc ++ (List.replicate (k + 1) its).flatten := by
      rw [List.replicate_succ, List.flatten_cons, List.append_assoc]
    rw [← e2, ← foldl_rep its k (acc ++ its), ← e, List.replicate_succ, List.foldl_cons]
section
variable {X : Cx} {pins : List (Addr × Obj)} {σ : St} {H : Hp} {s : Shared} {l b : Addr} {xs ys zs : List V}
theorem Inv.lset {its its' : List Value} {n : Nat} {f : Array Value → Array Value} {t' : Nat} (I : Inv X pins σ H s) (hH : H l = some (.lst xs))
    (e : s.heap.get? l = some { cls := .type "list", data := .seq its.toArray n }) (hf : f its.toArray = its'.toArray) (hv : Vals ys its') (hz : ys.length ≤ sizeLine) :
    Inv X pins σ (upd H l (.lst ys)) { s with heap := s.heap.update l (Obj.mapSeq f), toks := t' } := by
  have q := PySem.IsL.update e f
  rw [hf] at q
  refine I.write (x := l) (e := l) (by rw [hH]; exact trivial) (.inl rfl) (fun b' u hb hu => (Heap.get?_update_other s.heap (Obj.mapSeq f) (Ne.symm hb)).trans hu) ⟨_, q⟩ ?_
  exact ⟨hz, its', _, hv, q⟩
theorem Inv.lnew {its : List Value} {t' : Nat} (I : Inv X pins σ H s) (hv : Vals ys its) (hz : ys.length ≤ sizeLine) :
    Inv X pins σ (upd H s.heap.objs.size (.lst ys)) { s with heap := s.heap.push { cls := .type "list", data := .seq its.toArray }, toks := t' } :=
  I.laid (fun _ _ q => Heap.get?_push_of_some _ q) (Nat.le_refl _) ⟨hz, its, 0, hv, Heap.get?_push_size _ rfl⟩
theorem Inv.fresh (I : Inv X pins σ H s) : H s.heap.objs.size = none := I.hok.fresh (Nat.le_refl _)
theorem Inv.lstM (I : Inv X pins σ H s) (hH : H l = some (.lst xs)) : xs.length ≤ sizeLine ∧ ∃ (its : List Value) (n : Nat), Vals xs its ∧ xs.length = its.length ∧ s.heap.get? l = some { cls := .type "list", data := .seq its.toArray n } := by
  obtain ⟨z, its, n, r, e⟩ := I.hok l _ hH
  exact ⟨z, its, n, r, r.length, e⟩
theorem notLongL {n : Nat} (h : n ≤ sizeLine) : Builtin.List.listTooLong n = false := by
  unfold Builtin.List.listTooLong
  exact decide_eq_false (by omega)
end
section
variable {X : Cx}
noncomputable def rAppend : V → List V → Hp → VK → Prop := fun x vs H Q => ∃ l xs y, x = .ref l ∧ vs = [y] ∧ H l = some (.lst xs) ∧ xs.length < sizeLine ∧ Q .non (upd H l (.lst (xs ++ [y])))
theorem mt_append : MtM X "list.append" rAppend := by
  intro pins s σ H x vs v us Q I rx rv h
  obtain ⟨l, xs, y, rfl, rfl, hH, hz, q⟩ := h
  cases rx
  obtain ⟨u, rfl, ru⟩ := rv.one
  obtain ⟨z, its, n, r, hl, e⟩ := I.lstM hH
  refine call_meets F.slot_list_append ⟨_, e, rfl⟩ F.entry_list_append (F.args_list_append_2 _ _) (PySem.list_append l its.toArray n u (by rw [List.size_toArray]; omega)) ⟨e, ?_⟩
  refine ⟨.non, _, I.lset (its' := its ++ [u]) hH e (by simp) (r.append (.cons ru .nil)) ?_, rfl, q⟩
  rw [List.length_append, List.length_singleton]
  omega
noncomputable def rExtend : V → List V → Hp → VK → Prop := fun x vs H Q => ∃ l b xs zs, x = .ref l ∧ vs = [.ref b] ∧ H l = some (.lst xs) ∧ H b = some (.lst zs) ∧ xs.length + zs.length ≤ sizeLine ∧ Q .non (upd H l (.lst (xs ++ zs)))
theorem mt_extend : MtM X "list.extend" rExtend := by
  intro pins s σ H x vs v us Q I rx rv h
  obtain ⟨l, b, xs, zs, rfl, rfl, hH, hB, hz, q⟩ := h
  cases rx
  obtain ⟨u, rfl, ru⟩ := rv.one
  cases ru
  obtain ⟨z, its, n, r, hl, e⟩ := I.lstM hH
  obtain ⟨z2, its2, n2, r2, hl2, e2⟩ := I.lstM hB
  have hsz : its.toArray.size + its2.toArray.size ≤ sizeLine := by rw [List.size_toArray, List.size_toArray]; omega
  have hlong : ¬ (!its.toArray.isEmpty && Builtin.List.listTooLong (its.toArray.size + its2.toArray.size)) = true := by
    rw [notLongL hsz, Bool.and_false]
    exact Bool.false_ne_true
  refine call_meets F.slot_list_extend ⟨_, e, rfl⟩ F.entry_list_extend (F.args_list_extend_2 _ _)
    (AutoSeq1.list_extend_list_list_0 l its.toArray n b its2.toArray n2 hlong (by rw [List.size_toArray]; omega) (by omega)) ⟨e, e2, ?_⟩
  refine ⟨.non, _, I.lset (its' := its ++ its2) hH e (by simp) (r.append r2) ?_, rfl, q⟩
  rw [List.length_append]
  omega
noncomputable def rCat : R2 := fun x y H Q => ∃ l b xs zs, x = .ref l ∧ y = .ref b ∧ H l = some (.lst xs) ∧ H b = some (.lst zs) ∧ xs.length + zs.length ≤ sizeLine ∧ ∀ p, H p = none → Q (.ref p) (upd H p (.lst (xs ++ zs)))
theorem op_cat : OpR X (binaryOp .Add) rCat := by
  intro pins s σ H x y v u Q I rx ry h
  obtain ⟨l, b, xs, zs, rfl, rfl, hH, hB, hz, q⟩ := h
  cases rx
  cases ry
  obtain ⟨z, its, n, r, hl, e⟩ := I.lstM hH
  obtain ⟨z2, its2, n2, r2, hl2, e2⟩ := I.lstM hB
  refine PySem.P.add_list e e2 ?_ (by rw [List.size_toArray, List.size_toArray]; omega)
  have ea : its.toArray ++ its2.toArray = (its ++ its2).toArray := by simp
  rw [ea]
  exact ⟨.ref _, _, I.lnew (t' := s.toks) (r.append r2) (by rw [List.length_append]; omega), rfl, q _ I.fresh⟩
noncomputable def rRep : R2 := fun x y H Q => ∃ l k xs, x = .ref l ∧ y = .int k ∧ H l = some (.lst xs) ∧ -(2 ^ 63) ≤ k ∧ k < 2 ^ 63 ∧ xs.length * k.toNat ≤ sizeLine ∧
  ∀ p, H p = none → Q (.ref p) (upd H p (.lst (List.replicate k.toNat xs).flatten))
theorem len_rep {α : Type} (xs : List α) (k : Nat) : (List.replicate k xs).flatten.length = k * xs.length := by
  induction k with
  | zero => simp
  | succ k ih => rw [List.replicate_succ, List.flatten_cons, List.length_append, ih, Nat.succ_mul, Nat.add_comm]
theorem op_rep : OpR X (binaryOp .Mult) rRep := by
  intro pins s σ H x y v u Q I rx ry h
  obtain ⟨l, k, xs, rfl, rfl, hH, h1, h2, hz, q⟩ := h
  cases rx
  obtain ⟨t, rfl⟩ := ry
  obtain ⟨z, its, n, r, hl, e⟩ := I.lstM hH
  have hlen : its.toArray.size * k.toNat ≤ sizeLine := by rw [List.size_toArray, ← hl]; exact hz
  have hcap : ¬ its.toArray.size * k.toNat > (2 ^ 63 - 1) / 8 := by
    have : (sizeLine : Nat) ≤ (2 ^ 63 - 1) / 8 := by decide
    omega
  have hfit : ¬ (!Builtin.List.listFitsIndex k) = true := by
    rw [fitsIndex_both h1 h2]
    exact Bool.false_ne_true
  have hlong : ¬ Builtin.List.listTooLong (its.toArray.size * k.toNat) = true := by
    rw [notLongL hlen]
    exact Bool.false_ne_true
  have hnew : List.foldl (fun x1 x2 => x1 ++ x2) #[] (List.replicate (if its.toArray.isEmpty = true then 0 else k.toNat) its.toArray) = (List.replicate k.toNat its).flatten.toArray := by
    have f0 : ∀ m : Nat, List.foldl (fun x1 x2 => x1 ++ x2) #[] (List.replicate m its.toArray) = (List.replicate m its).flatten.toArray := fun m => by
      have := foldl_rep its m []
      rw [List.nil_append] at this
      exact this
    rw [f0]
    cases its with
    | nil => simp
    | cons a r' => rw [if_neg (by simp)]
  refine wpAny_binaryOp_repeat_ref (T := "list") (U := "int") (by decide) ⟨_, e, rfl⟩ (fun s' => typeIs_int s' k t) noFill_list_mul F.fills_int_mul F.slot_int_rmul repeat_list F.slot_int_index.lookup
    (call_meets F.slot_int_rmul (typeIs_int s k t) F.entry_int_rmul (F.args_int_rmul_2 _ _) (int___rmul___int_list k t l its.toArray n)
      ⟨e, rfl, ⟨_, e, rfl⟩, call_meets F.slot_list_mul ⟨_, e, rfl⟩ F.entry_list_mul (F.args_list_mul_2 _ _) (AutoListH.list___mul___list_int_3 l its.toArray n k t hfit hcap hlong) ⟨e, ?_⟩⟩)
  rw [hnew]
  exact ⟨.ref _, _, I.lnew (t' := s.toks) (r.rep k.toNat) (by rw [len_rep, Nat.mul_comm]; exact hz), rfl, q _ I.fresh⟩
end
section
variable {prog : Program} {w : World} {A : Around} {E : Value → Shared → Prop} {s : Shared}
set_option maxRecDepth 100000 in
end
section
variable {X : Cx}
end
end L2
namespace L2
open PySem PySem.Spec PyProof.Rows
section
variable {κ : Type} [DecidableEq κ]
noncomputable def valV (kvs : List (κ × V)) (k : κ) : Option V := (kvs.find? fun kv => decide (kv.1 = k)).map (·.2)
theorem valV_pos {p : κ × V} {r : List (κ × V)} {k : κ} (e : p.1 = k) : valV (p :: r) k = some p.2 := by simp [valV, List.find?_cons, e]
theorem valV_neg {p : κ × V} {r : List (κ × V)} {k : κ} (e : ¬ p.1 = k) : valV (p :: r) k = valV r k := by simp [valV, List.find?_cons, e]
theorem RelO.isSome_eq {o : Option V} {u : Option Value} (r : RelO o u) : o.isSome = u.isSome := by
  cases o with
  | none => cases u with
    | none => rfl
    | some _ => exact (show False from r).elim
  | some _ => cases u with
    | none => exact (show False from r).elim
    | some _ => rfl
theorem KV.val {kvs : List (κ × V)} {vs : List (κ × Value)} (r : KV kvs vs) (k : κ) : RelO (valV kvs k) (valueAt vs k) := by
  unfold KV at r
  induction r with
  | nil => exact True.intro
  | @cons p q ps qs h t ih =>
    obtain ⟨h1, h2⟩ := h
    by_cases e : p.1 = k
    · have e' : q.1 = k := h1.symm.trans e
      have b : valueAt (q :: qs) k = some q.2 := by simp [valueAt, List.find?_cons, e']
      rw [valV_pos e, b]; exact h2
    · have e' : ¬ q.1 = k := fun z => e (h1.trans z)
      have b : valueAt (q :: qs) k = valueAt qs k := by simp [valueAt, List.find?_cons, e']
      rw [valV_neg e, b]; exact ih
theorem KV.length {kvs : List (κ × V)} {vs : List (κ × Value)} (r : KV kvs vs) : kvs.length = vs.length := Paired.length r
end
theorem kV_is {P : Program} {w : World} {k : Key} {u : Value} (r : RelV (kV k) u) : (mixKind P w).is k u = true := by
  cases k with
  | inl i => obtain ⟨t, e⟩ := (show ∃ t, u = Value.int i t from r); subst e; exact mixKind_int P w i t
  | inr x => obtain ⟨t, e⟩ := (show ∃ t, u = Value.str x t from r); subst e; exact mixKind_str P w x t
theorem items_are {P : Program} {w : World} : ∀ {ks : List Key} {us : List Value}, Vals (ks.map kV) us → ItemsAre (mixKind P w) ks us
  | [], _, r => by rw [List.map_nil] at r; cases r; exact .nil
  | k :: ks, _, r => by
    rw [List.map_cons] at r
    cases r with
    | cons h t => exact .cons (kV_is h) (items_are t)
noncomputable abbrev KT (H : Hp) : List (List Key × V) → List (List Key × Addr × Value) → Prop := Paired fun p q => p.1 = q.1 ∧ H q.2.1 = some (.tup (p.1.map kV)) ∧ RelV p.2 q.2.2
theorem KT.val {H : Hp} {kvs : List (List Key × V)} {xs : List (List Key × Addr × Value)} (r : KT H kvs xs) (k : List Key) : RelO (valV kvs k) ((atKey xs k).map (·.2)) := by
  induction r with
  | nil => exact True.intro
  | @cons p q ps qs h t ih =>
    obtain ⟨h1, _, h2⟩ := h
    by_cases e : p.1 = k
    · have e' : q.1 = k := h1.symm.trans e
      have b : atKey (q :: qs) k = some q.2 := by simp [atKey, List.find?_cons, e']
      rw [valV_pos e, b]; exact h2
    · have e' : ¬ q.1 = k := fun z => e (h1.trans z)
      have b : atKey (q :: qs) k = atKey qs k := by simp [atKey, List.find?_cons, e']
      rw [valV_neg e, b]; exact ih
section
variable {P : Program} {w : World} {H : Hp} {h : Heap} {a : Addr}
theorem rd_of {u : HO} (ok : HOk P w H h) (e : Rd H a u) : ObjOk P w H h a u := e.ok ok
theorem dk_rd {kvs : List (Key × V)} (ok : HOk P w H h) (e : Rd H a (.dK kvs)) : kvs.length ≤ sizeLine ∧ (a == sysModules) = false ∧ ∃ vs, KV kvs vs ∧ h.DictOf (mixKind P w) a vs :=
  show ObjOk P w H h a (.dK kvs) from rd_of ok e
theorem key_of {ks : List Key} (ok : HOk P w H h) (e : H a = some (.tup (ks.map kV))) : (tupleKind (mixKind P w)).is h ks a := by
  obtain ⟨_, its, r, ⟨o, h1, h2, n, h3⟩, _⟩ := (show ObjOk P w H h a (.tup (ks.map kV)) from ok a _ e)
  exact ⟨o, its.toArray, n, h1, h2, h3, by simpa using items_are r⟩
theorem dt_rd {kvs : List (List Key × V)} (ok : HOk P w H h) (e : Rd H a (.dT kvs)) : kvs.length ≤ sizeLine ∧ (a == sysModules) = false ∧
    ∃ xs, KT H kvs xs ∧ h.DictOfH (tupleKind (mixKind P w)) a xs := by
  obtain ⟨z, y, xs, r, o, es, ep, h1, h2, h3, h4, h5⟩ := (show ObjOk P w H h a (.dT kvs) from rd_of ok e)
  refine ⟨z, y, xs, r, o, es, ep, h1, h2, h3, h4, fun x hx => ?_, h5⟩
  have all : ∀ {l : List (List Key × V)} {m : List (List Key × Addr × Value)}, KT H l m → ∀ x ∈ m, (tupleKind (mixKind P w)).is h x.1 x.2.1 := by
    intro l m q
    induction q with
    | nil => intro x hx; exact nomatch hx
    | @cons p q ps qs hq t ih =>
      intro x hx
      rcases List.mem_cons.mp hx with e | hx
      · subst e
        exact key_of ok (by rw [← hq.1]; exact hq.2.1)
      · exact ih x hx
  exact all r x hx
end
noncomputable def DGet (H : Hp) (a : Addr) (y : V) (r : Option V) : Prop :=
  (∃ kvs k, Rd H a (.dK kvs) ∧ y = kV k ∧ r = valV kvs k) ∨ ∃ kvs k b, Rd H a (.dT kvs) ∧ y = .ref b ∧ H b = some (.tup (k.map kV)) ∧ r = valV kvs k
theorem DGet.k {H : Hp} {a : Addr} {kvs : List (Key × V)} {k : Key} (e : H a = some (.dK kvs)) : DGet H a (kV k) (valV kvs k) := .inl ⟨kvs, k, .inl e, rfl, rfl⟩
section
variable {X : Cx} {pins : List (Addr × Obj)} {σ : St} {H : Hp} {s : Shared} {a : Addr} {y v : V} {u r : Value} {o : Option V} {A : Around} {E : Value → Shared → Prop}
theorem d_getItem {Q : Value → Shared → Prop} (hu : A.units + 1 < cLine) (I : Inv X pins σ H s) (g : DGet H a y (some v)) (ry : RelV y u) (h : ∀ w' s', Inv X pins σ H s' → RelV v w' → Q w' s') :
    wpAny (model X.prog X.w) A (getItem (.ref a) u) Q E s := by
  rcases g with ⟨kvs, k, e, ey, l⟩ | ⟨kvs, k, b, e, ey, eb, l⟩
  · subst ey
    obtain ⟨z, hd, vs, rel, dd⟩ := dk_rd I.hok e
    obtain ⟨w', hw, rw'⟩ := RelO.some_of (v := v) (o := valueAt vs k) (by rw [l]; exact rel.val k)
    exact wpAny_getItem_of (kV_is ry) dd.mapOf hw (h w' _ (I.tok _) rw')
  · subst ey
    cases (show u = Value.ref b from ry)
    obtain ⟨z, hd, xs, rel, dd⟩ := dt_rd I.hok e
    obtain ⟨w', hw, rw'⟩ := RelO.some_of (v := v) (o := (atKey xs k).map (·.2)) (by rw [l]; exact rel.val k)
    obtain ⟨p, hp, hp2⟩ := Option.map_eq_some_iff.mp hw
    refine wpAny_getItem_heap (tupleKind_room_in1 hu) (key_of I.hok eb) dd hp ?_
    rw [hp2]
    exact h w' _ (I.tok _) rw'
theorem d_in {Q : Value → Shared → Prop} (hu : A.units + 1 < cLine) (I : Inv X pins σ H s) (g : DGet H a y o) (ry : RelV y u) (h : ∀ s', Inv X pins σ H s' → Q (.bool o.isSome) s') :
    wpAny (model X.prog X.w) A (compareOp .In u (.ref a)) Q E s := by
  rcases g with ⟨kvs, k, e, ey, l⟩ | ⟨kvs, k, b, e, ey, eb, l⟩
  · subst ey
    obtain ⟨z, hd, vs, rel, dd⟩ := dk_rd I.hok e
    refine wpAny_in_of (kV_is ry) hd dd.mapOf ?_
    rw [← (rel.val k).isSome_eq, ← l]
    exact h _ (I.tok _)
  · subst ey
    cases (show u = Value.ref b from ry)
    obtain ⟨z, hd, xs, rel, dd⟩ := dt_rd I.hok e
    refine wpAny_in_heap (tupleKind_room_in1 hu) (key_of I.hok eb) hd dd ?_
    have q := (rel.val k).isSome_eq
    rw [Option.isSome_map] at q
    rw [← q, ← l]
    exact h _ (I.tok _)
theorem d_notIn {Q : Value → Shared → Prop} (hu : A.units + 1 < cLine) (I : Inv X pins σ H s) (g : DGet H a y o) (ry : RelV y u) (h : ∀ s', Inv X pins σ H s' → Q (.bool (!o.isSome)) s') :
    wpAny (model X.prog X.w) A (compareOp .NotIn u (.ref a)) Q E s := by
  rcases g with ⟨kvs, k, e, ey, l⟩ | ⟨kvs, k, b, e, ey, eb, l⟩
  · subst ey
    obtain ⟨z, hd, vs, rel, dd⟩ := dk_rd I.hok e
    refine wpAny_notIn_of (kV_is ry) hd dd.mapOf ?_
    rw [← (rel.val k).isSome_eq, ← l]
    exact h _ (I.tok _)
  · subst ey
    cases (show u = Value.ref b from ry)
    obtain ⟨z, hd, xs, rel, dd⟩ := dt_rd I.hok e
    refine wpAny_notIn_heap (tupleKind_room_in1 hu) (key_of I.hok eb) hd dd ?_
    have q := (rel.val k).isSome_eq
    rw [Option.isSome_map] at q
    rw [← q, ← l]
    exact h _ (I.tok _)
end
section
variable {X : Cx} {pins : List (Addr × Obj)} {σ : St} {H : Hp} {s : Shared} {a : Addr} {kvs : List (Key × V)} {k : Key} {u : Value} {A : Around} {E : Value → Shared → Prop}
theorem d_len {Q : Value → Shared → Prop} (I : Inv X pins σ H s) (e : Rd H a (.dK kvs)) (h : ∀ t s', Inv X pins σ H s' → Q (.int kvs.length t) s') : wpAny (model X.prog X.w) A (call (.builtin "len") [.ref a]) Q E s := by
  obtain ⟨z, hd, vs, rel, dd⟩ := dk_rd I.hok e
  refine call_len_dict hd dd (by rw [← rel.length]; rw [sizeLine_eq] at z; omega) ?_
  rw [← rel.length]
  exact h _ _ (I.tok _)
end
theorem dict_typeIs {X : Cx} {pins : List (Addr × Obj)} {σ : St} {H : Hp} {s : Shared} {a : Addr} {y : V} {o : Option V} (I : Inv X pins σ H s) (g : DGet H a y o) : s.TypeIs (.ref a) "dict" := by
  rcases g with ⟨kvs, k, e, _, _⟩ | ⟨kvs, k, b, e, _, _, _⟩
  · obtain ⟨_, _, vs, _, dd⟩ := dk_rd I.hok e
    exact dd.typeIs
  · obtain ⟨_, _, xs, _, dd⟩ := dt_rd I.hok e
    exact dd.typeIs
section
variable {X : Cx} {o i e value : Expr} {pos pos' tpos : Pos} {td ty tv : TE}
end
section
variable {X : Cx} {pos : Pos}
end
section
variable {X : Cx} {pins : List (Addr × Obj)} {σ : St} {H : Hp} {s : Shared} {a : Addr} {y d : V} {u r : Value} {o : Option V} {A : Around} {E : Value → Shared → Prop}
end
section
variable {X : Cx} {o e f : Expr} {apos cpos : Pos} {td ty tx : TE}
end
section
variable {X : Cx} {pins : List (Addr × Obj)} {σ : St} {H : Hp} {s : Shared} {a : Addr} {kvs : List (Key × V)} {A : Around} {E : Value → Shared → Prop}
end
section
variable {X : Cx} {pins : List (Addr × Obj)} {σ : St} {H : Hp} {s : Shared} {a : Addr} {y : V} {u : Value} {A : Around} {E : Value → Shared → Prop}
end
end L2
namespace Att
open PySem PySem.W PySem.Calls PyProof.Rows
theorem ints_of_wellAll {P : Params} {h : Heap} : ∀ (ns : List Int) (vs : List Value), WellAll P h vs (ns.map WData.int) → IntsAre vs ns := by
  intro ns
  induction ns with
  | nil =>
    intro vs w
    rw [List.map_nil] at w
    cases w
    exact .nil
  | cons n ns ih =>
    intro vs w
    rw [List.map_cons] at w
    cases w with
    | cons a b =>
      cases a
      exact .cons _ _ (ih _ b)
theorem script_of {l : OpenLaw} {n : Nat} (hn : l.most = some n) {P : Params} {h : Heap} {args : List WData} {vals : List Value}
    (hpre : l.row.toRowW.claim.pre args = true) (hwl : WellAll P h vals args) :
    ∃ a vs ns, vals = [Value.ref a] ∧ args = [WData.list (ns.map WData.int)] ∧ h.get? a = some { cls := .type "list", data := .seq vs.toArray } ∧ IntsAre vs ns ∧ ns.length ≤ n := by
  have hsh : WShape.hasAll [] args [.list .int] = true := (pre_splitW hpre).1
  have hc : l.pre.holds [] { args := args } = true := (pre_splitW hpre).2
  obtain ⟨d, r, rfl, h1, h2⟩ := hasAllW_cons hsh
  obtain rfl := hasAllW_nil h2
  obtain ⟨xs, rfl, h3⟩ := hasW_list h1
  obtain ⟨ns, rfl⟩ := items_int h3
  have hlen : ns.length ≤ n := by
    unfold OpenLaw.pre at hc
    have h4 : (WTm.not (.lt (.lit (.int (n : Int))) (.len (.arg 0)))).holds [] { args := [.list (ns.map .int)] } = true := by
      have h4 := (holds_andW hc).1
      rw [hn] at h4
      exact h4
    have h5 := condW_of h4 (w_not (w_lt w_lit (w_len_list (w_arg rfl))))
    rw [List.length_map] at h5
    refine Nat.le_of_not_lt fun q => ?_
    have q' : (n : Int) < ((ns.length : Nat) : Int) := by omega
    first
      | (rw [decide_eq_true q'] at h5; exact absurd h5 (by decide))
      | (simp at h5; omega)
  cases hwl with
  | cons w1 w2 =>
    cases w2
    cases w1 with
    | list ho hall => exact ⟨_, _, ns, rfl, rfl, ho, ints_of_wellAll ns _ hall, hlen⟩
theorem post_true (l : OpenLaw) (args : List WData) : l.row.toRowW.claim.post args (.bool true) args = true :=
  postW_of (r := l.row.toRowW) (X := (true == true))
    (show WShape.has [] (.bool true) .bool = true by first | rfl | decide | simp [WShape.has, WShape.arms, WShape.armsAll])
    (show (WTm.eq .res (.lit (.bool true))).value [] { args := args, res := some (.bool true), after := args } = some (.bool (true == true)) from w_eq_bool (w_res rfl) w_lit) rfl
theorem attach_call {l : OpenLaw} {n : Nat} {q : Program} {loose : List Str} {XP : (Str → Option Value) → Heap → Prop} {YP : World → Heap → Prop} {d : DefRec}
    (hn : l.most = some n) (hdf : d.params.defaults = [])
    (call : ∀ (w : World) (s₀ s₁ : Shared) (mg mb : Str → Option Value) (fa : Addr) (o : Obj) (pm cd doc : Value) (a : Addr) (vs : List Value) (ns : List Int),
      Ground q loose [] XP w s₀ mg mb s₁.heap → YP w s₁.heap →
      s₁.heap.get? fa = some o → o.data = .func (docDef d.name d.params d.body d.scope pm cd doc) → s₁.heap.CodeRec cd d.name → mg d.name = some (.ref fa) →
      s₁.heap.get? a = some { cls := .type "list", data := .seq vs.toArray } → IntsAre vs ns → ns.length ≤ n → s₁.gens = #[] →
      codeAny (model l.prog w) callerA (.call (.ref fa) ⟨[.ref a], []⟩) (fun r s' => r = .ok (.ret (.bool true)) ∧ OldK s₁.heap s'.heap ∧ s'.os = s₁.os ∧ AllBare s'.gens) s₁) :
    WalkO q loose XP YP l.row.toRowW d [] (fun f vs => PySem.call f vs) := by
  intro w s₀ s₁ mg mb G Y fa o pm cd doc dV kV ho hd hcd hD hmg hg args vals as hpre hlay hrd hwl hlo
  obtain rfl : dV = .none := Dflts.none hD hdf
  obtain rfl : kV = .none := Dflts.noKw hD
  obtain ⟨a, vs, ns, rfl, rfl, hobj, hints, hlen⟩ := script_of hn hpre hwl
  refine enter_call (codeAny_mono (call w s₀ s₁ mg mb fa o pm cd doc a vs ns G Y ho (fd_plain hd) hcd hmg hobj hints hlen hg) fun r s' hq => ?_)
  obtain ⟨rfl, h2, h3, h4⟩ := hq
  exact ⟨.inl ⟨.bool true, .bool true, [], rfl, fun _ => rfl, .bool true, post_true l _, fun _ => ⟨List.Pairwise.nil, fun _ hm => (nomatch hm)⟩⟩, h2, h3, h4⟩
section
variable {prog : Program} {w : World} {A : Around} {E : Value → Shared → Prop} {s : Shared} {K : Frag}
end
end Att
namespace L2
open PySem PySem.Spec PyProof.Rows
theorem vals_ints : ∀ {vs : List Value} {ns : List Int}, IntsAre vs ns → Vals (ns.map V.int) vs
  | _, _, .nil => .nil
  | _, _, .cons n t h => .cons ⟨t, rfl⟩ (vals_ints h)
noncomputable def Only (H : Hp) : Prop := ∀ b, H b = none ∨ ∃ o xs, H b = some (.frz o (.lst xs))
theorem law_call {P : Program} {w : World} {K : PySem.W.Frag} {mg mb : Str → Option Value} {CX : CXT} {k : Nat} {fa a : Addr} {fd : FuncData} {x : Str} {sp : Sp} {s₁ : Shared} {vs : List Value} {ns : List Int}
    (KX : K.In s₁.heap) (hns : s₁.heap.Ns mainGlobals mg) (hb : s₁.heap.Ns builtinsNs mb) (hbb : ∀ x : Str, x ≠ "__name__" → mb x = bootBuiltins x) (hlim : s₁.heap.NoLimit) (hg : s₁.gens = #[])
    (ha : s₁.heap.get? a = some { cls := .type "list", data := .seq vs.toArray }) (hi : IntsAre vs ns) (hl : ns.length ≤ sizeLine) (hr : Room k callerA)
    (F : ∀ base : Heap, K.In base → base.Ns mainGlobals mg → FnOk P w K mg base CX k fa fd [x] sp) (hbind : ∀ (s : Shared) (u : Value), BindsTo s fd ⟨[u], []⟩ [(x, u)])
    (hsp : ∀ H : Hp, Only H → SqL K H a (ns.map V.int) → (∀ o, K.lookup a = some o → o.slots = #[]) → sp [.ref a] H (fun v _ => v = .bl true) fun _ _ _ => False)
    (hCX : ∀ H e s', CX [] H s₁ (fun _ _ _ => False) e s' → False) :
    codeAny (model P w) callerA (.call (.ref fa) ⟨[.ref a], []⟩) (fun r s' => r = .ok (.ret (.bool true)) ∧ OldK s₁.heap s'.heap ∧ s'.os = s₁.os ∧ AllBare s'.gens) s₁ := by
  have rv := vals_ints hi
  have lenV := hi.length
  -- from an abstract heap in which nothing but the script may be tracked
  have core : ∀ H : Hp, Only H → SqL K H a (ns.map V.int) → HOk P w H s₁.heap → (∀ b, H b ≠ none → b = a) → (H a ≠ none → K.lookup a = none) →
      codeAny (model P w) callerA (.call (.ref fa) ⟨[.ref a], []⟩) (fun r s' => r = .ok (.ret (.bool true)) ∧ OldK s₁.heap s'.heap ∧ s'.os = s₁.os ∧ AllBare s'.gens) s₁ := by
    intro H hO hS hok hA hK
    have base_of : ∀ {b : Addr} {o : Obj}, s₁.heap.get? b = some o → H b = none → (hidT s₁.heap H).get? b = some o := fun e n => hidT_get e n
    have noA : ∀ {b : Addr} {o : Obj} {es : Array DictEntry} {ep : Nat}, s₁.heap.get? b = some o → o.data = .dict es ep → H b = none := fun {b o es ep} e d => by
      cases q : H b with
      | none => rfl
      | some u =>
        have e' : b = a := hA b (by rw [q]; simp)
        subst e'
        rw [ha] at e; cases e
        have d' : Data.seq vs.toArray _ = Data.dict es ep := d
        cases d'
    have nsK : ∀ {b : Addr} {m : Str → Option Value}, s₁.heap.Ns b m → (hidT s₁.heap H).Ns b m := fun {b m} ⟨o, es, ep, e, d, r⟩ => ⟨o, es, ep, base_of e (noA e d), d, r⟩
    have hKb : K.In (hidT s₁.heap H) := fun b o e => base_of (KX b o e) (by
      cases q : H b with
      | none => rfl
      | some u =>
        have e' : b = a := hA b (by rw [q]; simp)
        subst e'
        rw [hK (by rw [q]; simp)] at e; cases e)
    have hM : Mod K mg (hidT s₁.heap H) := ⟨hKb, nsK hns, ⟨mb, nsK hb, hbb⟩, let ⟨mc, h1, h2⟩ := hlim; ⟨mc, nsK h1, h2⟩⟩
    have e0 : Env0 P w K mg (hidT s₁.heap H) callerA [] s₁ H := ⟨rfl, hM, fun b o e => of_hidT e, Nat.le_of_eq (hidT_size _ _), trivial, fun b hb => absurd (show b ∈ ([] : List Addr) from hb) (by simp), hok, .of_eq hg⟩
    refine codeAny_mono ((F _ hKb (nsK hns)).run callerA [] s₁ H ⟨[.ref a], []⟩ [.ref a] [.ref a] _ _ hr e0 (hbind s₁ (.ref a)) (.cons rfl .nil) (hsp H hO hS (fun o e => by have e' := KX a o e; rw [ha] at e'; cases e'; rfl))) fun r s' h => ?_
    cases r with
    | error e => exact (hCX H e s' h).elim
    | ok fl =>
      cases fl with
      | next => exact False.elim h
      | brk => exact False.elim h
      | cont => exact False.elim h
      | ret u =>
        obtain ⟨v, H', os, bare, un, hok', r', q⟩ := h
        have q' : v = .bl true := q
        subst q'
        obtain rfl : u = Value.bool true := r'
        refine ⟨rfl, OldK.of_keep fun b o e => ?_, os, bare⟩
        cases q : H b with
        | none => exact un.keep b o e q (by intro z; exact absurd (show b ∈ ([] : List Addr) from z) (by simp)) (by simp)
        | some u =>
          rcases hO b with z | ⟨ob, xs, z⟩
          · rw [q] at z; cases z
          · have z2 := un.frzs b ob _ z
            obtain ⟨e1, _⟩ := hok b _ z
            obtain ⟨e2, _⟩ := hok' b _ z2
            rw [e] at e1; cases e1
            exact e2
  cases hk : K.lookup a with
  | some o =>
    -- the script is one of the module's own objects
    have e := KX a o hk
    rw [ha] at e
    cases e
    refine core (fun _ => none) (fun _ => .inl rfl) (.inr ⟨_, vs.toArray, _, hk, rfl, rfl, rfl, by rw [List.size_toArray, lenV]; exact hl, by simpa using rv⟩) (fun b u z => by have z' : (none : Option HO) = some u := z; cases z') (fun b z => absurd rfl z) fun z => absurd rfl z
  | none =>
    refine core (fun b => if b = a then some (.frz { cls := .type "list", data := .seq vs.toArray } (.lst (ns.map V.int))) else none) (fun b => ?_) (.inl (.inr ⟨{ cls := .type "list", data := .seq vs.toArray }, if_pos rfl⟩)) (fun b u z => ?_) (fun b z => ?_) fun _ => hk
    · by_cases hb : b = a
      · exact .inr ⟨_, _, if_pos hb⟩
      · exact .inl (if_neg hb)
    · by_cases hb : b = a
      · have z' := (if_pos hb).symm.trans z
        cases z'
        subst hb
        exact ⟨ha, by rw [List.length_map]; exact hl, vs, _, rv, ha⟩
      · have z' := (if_neg hb).symm.trans z
        cases z'
    · by_cases hb : b = a
      · exact hb
      · exact absurd (if_neg hb) z
end L2
namespace L2
open PySem PySem.Spec PyProof.Rows
theorem walk_of {l : PySem.W.OpenLaw} {n k : Nat} {q : Program} {loose : List Str} {XP : (Str → Option Value) → Heap → Prop} {YP : World → Heap → Prop} {d : DefRec} {K : Params → PySem.W.Frag} {CX : World → CXT} {sp : World → Sp} {x : Str}
    (hn : l.most = some n) (hn2 : n ≤ sizeLine) (hdf : d.params.defaults = []) (hr : Room k callerA)
    (hY : ∀ (w : World) (h : Heap), YP w h → (K w.params).In h)
    (F : ∀ (w : World) (mg : Str → Option Value) (fa : Addr) (h : Heap), (K w.params).In h → h.Ns mainGlobals mg → mg d.name = some (.ref fa) →
      ∃ fd : FuncData, (∀ (s : Shared) (u : Value), BindsTo s fd ⟨[u], []⟩ [(x, u)]) ∧
        ∀ base : Heap, (K w.params).In base → base.Ns mainGlobals mg → FnOk l.prog w (K w.params) mg base (CX w) k fa fd [x] (sp w))
    (hsp : ∀ (w : World) (H : Hp) (a : Addr) (ns : List Int), ns.length ≤ n → Only H → SqL (K w.params) H a (ns.map V.int) → (∀ o, (K w.params).lookup a = some o → o.slots = #[]) → sp w [.ref a] H (fun v _ => v = .bl true) fun _ _ _ => False)
    (hCX : ∀ (w : World) (H : Hp) (s : Shared) (e : Value) (s' : Shared), CX w [] H s (fun _ _ _ => False) e s' → False) :
    PySem.W.WalkO q loose XP YP l.row.toRowW d [] (fun f vs => PySem.call f vs) := by
  refine Att.attach_call hn hdf fun w s₀ s₁ mg mb fa o pm cd doc a vs ns G Y ho hd hcd hmg hobj hints hlen hg => ?_
  have KX := hY w _ Y
  obtain ⟨fd, hb, hF⟩ := F w mg fa _ KX G.T.g hmg
  exact law_call KX G.T.g G.T.b G.T.builtins G.T.nolimit hg hobj hints (Nat.le_trans hlen hn2) hr hF hb (fun H hO hS => hsp w H a ns hlen hO hS) fun H e s' => hCX w H s₁ e s'
end L2
namespace L2
open PySem PySem.Spec PyProof.Rows
noncomputable def defArgs (s : Stmt) : Arguments := match s with
  | .FunctionDef _ a _ _ _ _ _ _ _ _ => a
  | _ => { posonlyargs := [], args := [], vararg := none, kwonlyargs := [], kw_defaults := [], kwarg := none, defaults := [] }
noncomputable def defBody (s : Stmt) : List Stmt := match s with
  | .FunctionDef _ _ b _ _ _ _ _ _ _ => b
  | _ => []
noncomputable def defScope (s : Stmt) : Scope := match s with
  | .FunctionDef _ _ _ _ _ _ sc _ _ _ => sc
  | _ => { kind := .function, names := [], isGenerator := false, isCoroutine := false }
noncomputable abbrev CX0 : CXT := fun _ _ _ _ _ _ => False
noncomputable abbrev E0 : XK := fun _ _ _ => False
theorem pass0 {X : Cx} : Passes CX0 X E0 := fun _ _ _ _ _ _ _ h => h.elim
structure Fun (K : PySem.W.Frag) (x qual : Str) (st : Stmt) (f : Addr) (fd : FuncData) : Prop where
  ex : ∃ (oc : Value) (od : Option Addr) (kV doc pm : Value) (an : Option Addr) (cdv ct : Value) (osl : Array (Option Value)),
    fd = PySem.W.fnOf x qual (defArgs st) (defBody st) (defScope st) .none kV doc pm an cdv ct ∧ K.lookup f = some ⟨oc, od, .func fd, osl⟩ ∧ PySem.W.codeIn K cdv qual = true
  kp : PySem.W.keepIn K (.ref f) = true
section
variable {P : Program} {w : World} {K : PySem.W.Frag} {mg : Str → Option Value} {base : Heap}
theorem Fun.ok {x qual : Str} {st : Stmt} {f : Addr} {fd : FuncData} {N ps : List Str} {k : Nat} {sp : Sp} (F : Fun K x qual st f fd) (S : FnScope N ps (defScope st)) (len : ∀ vs H Q E, sp vs H Q E → vs.length = ps.length)
    (hbody : ∀ (cdv : Value) (A : Around) (outer : List Env) (s : Shared) (H : Hp) (vs : List V) (Q : VK) (E : XK), Room k (A.deeper (envOfC qual (defScope st) s.heap.objs.size f cdv)) → sp vs H Q E →
      ∃ t, PSs (cxOf CX0 P w K mg base N qual (defScope st) f cdv A outer s H E).nox (defBody st) t ∧ t { nx := fun _ H' => Q .non H', rt := Q } (start N vs) H) : FnOk P w K mg base CX0 (k + 1) f fd ps sp := by
  obtain ⟨oc, od, kV, doc, pm, an, cdv, ct, osl, rfl, lk, hcd⟩ := F.ex
  refine fn_of lk hcd S len fun A outer s H vs Q E hr hsp => ?_
  obtain ⟨t, h, q⟩ := hbody cdv A outer s H vs Q E hr hsp
  exact ⟨t, h.nox, q⟩
theorem Fun.binds {x qual : Str} {st : Stmt} {f : Addr} {fd : FuncData} {ps : List Str} (F : Fun K x qual st f fd)
    (h : ∀ (kV doc pm : Value) (an : Option Addr) (cdv ct : Value) (us : List Value), us.length = ps.length → bindArgs (PySem.W.fnOf x qual (defArgs st) (defBody st) (defScope st) .none kV doc pm an cdv ct) ⟨us, []⟩ = pure (ps.zip us)) : Binds K fd ps [] := by
  obtain ⟨oc, od, kV, doc, pm, an, cdv, ct, osl, rfl, lk, hcd⟩ := F.ex
  exact .all (h kV doc pm an cdv ct)
theorem fun_mk {x qual : Str} {st : Stmt} {f : Addr} {oc : Value} {od an : Option Addr} {osl : Array (Option Value)} {kV doc pm cdv ct : Value} (l : K.lookup f = some ⟨oc, od, .func (PySem.W.fnOf x qual (defArgs st) (defBody st) (defScope st) .none kV doc pm an cdv ct), osl⟩)
    (c : PySem.W.codeIn K cdv qual = true) (k : PySem.W.keepIn K (.ref f) = true) : Fun K x qual st f (PySem.W.fnOf x qual (defArgs st) (defBody st) (defScope st) .none kV doc pm an cdv ct) := ⟨⟨oc, od, kV, doc, pm, an, cdv, ct, osl, rfl, l, c⟩, k⟩
end
section
variable {X : Cx}
theorem call_lenD : CallR X (.builtin "len") (fun xs H Q => ∃ a kvs, xs = [V.ref a] ∧ H a = some (.dK kvs) ∧ Q (.int kvs.length) H) := by
  intro pins s σ H xs us Q I r h
  obtain ⟨a, kvs, rfl, ha, q⟩ := h
  obtain ⟨u, rfl, ru⟩ := vals1 r
  cases ru
  exact d_len I (.inl ha) fun t s' I' => ⟨.int kvs.length, H, I', ⟨t, rfl⟩, q⟩
end
section
variable {κ : Type} [DecidableEq κ]
end
end L2
set_option linter.all false
namespace ZT
open PySem PyProof PyProof.Rows
section
variable {prog : Program} {w : World} {A : Around} {E : Value → Shared → Prop} {s : Shared} {kd : SortKind} {M0 : Keyed → Prop}
end
end ZT
set_option linter.all false
namespace ZT
open PySem PyProof PyProof.Rows
section
variable {prog : Program} {w : World} {A : Around} {E : Value → Shared → Prop} {s : Shared} {kd : SortKind} {M0 : Keyed → Prop} {a₀ : Array Keyed}
end
end ZT
set_option linter.all false
namespace ZT
open PySem PyProof PyProof.Rows
section
variable {prog : Program} {w : World} {A : Around} {E : Value → Shared → Prop} {s : Shared} {kd : SortKind} {M0 : Keyed → Prop} {a₀ : Array Keyed}
end
end ZT
set_option linter.all false
namespace ZT
open PySem PyProof PyProof.Rows
section
variable {prog : Program} {w : World} {A : Around} {E : Value → Shared → Prop} {s : Shared} {kd : SortKind} {M0 : Keyed → Prop} {a₀ : Array Keyed}
end
end ZT
set_option linter.all false
namespace ZT
open PySem PyProof PyProof.Rows
section
variable {prog : Program} {w : World} {A : Around} {E : Value → Shared → Prop} {s : Shared}
end
end ZT
set_option linter.all false
namespace ZT
open PySem
noncomputable def Ris (xs : Array Nat) : Prop := ∀ (i j : Nat) (a b : Nat), i < j → xs[i]? = some a → xs[j]? = some b → a < b
theorem below_go (xs : Array Nat) (j : Nat) (R : Ris xs) : ∀ (fuel lo hi : Nat), hi - lo ≤ fuel → lo ≤ hi → hi ≤ xs.size → (∀ i a, i < lo → xs[i]? = some a → a < j) → (∀ i a, hi ≤ i → xs[i]? = some a → j ≤ a) →
    lo ≤ SetTable.below.go xs j fuel lo hi ∧ SetTable.below.go xs j fuel lo hi ≤ hi ∧ (∀ i a, i < SetTable.below.go xs j fuel lo hi → xs[i]? = some a → a < j) ∧ ∀ i a, SetTable.below.go xs j fuel lo hi ≤ i → xs[i]? = some a → j ≤ a
  | 0, lo, hi, h1, h2, h3, h4, h5 => by
    have : lo = hi := by omega
    subst this
    simp only [SetTable.below.go]
    exact ⟨Nat.le_refl _, Nat.le_refl _, h4, h5⟩
  | fuel + 1, lo, hi, h1, h2, h3, h4, h5 => by
    unfold SetTable.below.go
    by_cases hlt : lo < hi
    · rw [if_pos hlt]
      have m1 : lo ≤ (lo + hi) / 2 := by omega
      have m2 : (lo + hi) / 2 < hi := by omega
      have hm : (lo + hi) / 2 < xs.size := by omega
      have eg : xs.getD ((lo + hi) / 2) j = xs[(lo + hi) / 2] := by simp [Array.getD, hm]
      have eq : xs[(lo + hi) / 2]? = some xs[(lo + hi) / 2] := by simp [hm]
      dsimp only
      by_cases hc : xs.getD ((lo + hi) / 2) j < j
      · rw [if_pos hc]
        have key : ∀ (i a : Nat), i < (lo + hi) / 2 + 1 → xs[i]? = some a → a < j := fun i a hi' e => by
          rcases Nat.lt_or_ge i ((lo + hi) / 2) with z | z
          · have := R i _ a _ z e eq; omega
          · have : i = (lo + hi) / 2 := by omega
            subst this
            have e2 := Option.some.inj (eq.symm.trans e)
            rw [eg] at hc
            omega
        obtain ⟨a1, a2, a3, a4⟩ := below_go xs j R fuel ((lo + hi) / 2 + 1) hi (by omega) (by omega) h3 key h5
        exact ⟨by omega, a2, a3, a4⟩
      · rw [if_neg hc]
        have key : ∀ (i a : Nat), (lo + hi) / 2 ≤ i → xs[i]? = some a → j ≤ a := fun i a hi' e => by
          rcases Nat.lt_or_ge ((lo + hi) / 2) i with z | z
          · have := R _ i _ a z eq e; omega
          · have : i = (lo + hi) / 2 := by omega
            subst this
            have e2 := Option.some.inj (eq.symm.trans e)
            rw [eg] at hc
            omega
        obtain ⟨a1, a2, a3, a4⟩ := below_go xs j R fuel lo ((lo + hi) / 2) (by omega) (by omega) (by omega) h4 key
        exact ⟨a1, by omega, a3, a4⟩
    · rw [if_neg hlt]
      have : lo = hi := by omega
      subst this
      exact ⟨Nat.le_refl _, Nat.le_refl _, h4, h5⟩
theorem below_spec {xs : Array Nat} (R : Ris xs) (j : Nat) : SetTable.below xs j ≤ xs.size ∧ (∀ i a, i < SetTable.below xs j → xs[i]? = some a → a < j) ∧ ∀ i a, SetTable.below xs j ≤ i → xs[i]? = some a → j ≤ a := by
  obtain ⟨_, a2, a3, a4⟩ := below_go xs j R xs.size 0 xs.size (by omega) (Nat.zero_le _) (Nat.le_refl _) (fun i a h => absurd h (Nat.not_lt_zero _)) (fun i a h e => by
    have := (Array.getElem?_eq_some_iff.mp e).1; omega)
  exact ⟨a2, a3, a4⟩
theorem below_eq {xs : Array Nat} (R : Ris xs) {j k : Nat} (hk : k ≤ xs.size) (h1 : ∀ i a, i < k → xs[i]? = some a → a < j) (h2 : ∀ i a, k ≤ i → xs[i]? = some a → j ≤ a) : SetTable.below xs j = k := by
  obtain ⟨a2, a3, a4⟩ := below_spec R j
  rcases Nat.lt_trichotomy (SetTable.below xs j) k with z | z | z
  · have hs : SetTable.below xs j < xs.size := by omega
    have e : xs[SetTable.below xs j]? = some xs[SetTable.below xs j] := by simp [hs]
    have b1 := h1 _ _ z e
    have b2 := a4 _ _ (Nat.le_refl _) e
    omega
  · exact z
  · have hs : k < xs.size := by omega
    have e : xs[k]? = some xs[k] := by simp [hs]
    have b1 := h2 _ _ (Nat.le_refl _) e
    have b2 := a3 _ _ z e
    omega
theorem ris_put {xs : Array Nat} (R : Ris xs) {j : Nat} (hn : ∀ i : Nat, xs[i]? ≠ some j) : Ris (SetTable.insertAt xs (SetTable.below xs j) j) := by
  obtain ⟨a2, a3, a4⟩ := below_spec R j
  generalize SetTable.below xs j = p at a2 a3 a4
  have hl : ∀ i, (SetTable.insertAt xs p j)[i]? = if i < p then xs[i]? else if i = p then some j else xs[i - 1]? := fun i => by
    rw [← Array.getElem?_toList, SetTable.toList_insertAt]
    have e1 : (xs.toList.take p).length = p := by simp; omega
    by_cases h1 : i < p
    · rw [if_pos h1, List.getElem?_append_left (by omega), List.getElem?_take, if_pos h1, Array.getElem?_toList]
    · rw [if_neg h1, List.getElem?_append_right (by omega), e1]
      by_cases h2 : i = p
      · rw [if_pos h2, h2, Nat.sub_self, List.getElem?_cons_zero]
      · rw [if_neg h2]
        obtain ⟨k, rfl⟩ : ∃ k, i = p + k + 1 := ⟨i - p - 1, by omega⟩
        rw [show p + k + 1 - p = k + 1 by omega, List.getElem?_cons_succ, List.getElem?_drop, Array.getElem?_toList]
        rfl
  have lt4 : ∀ i a, p ≤ i → xs[i]? = some a → j < a := fun i a h e => by
    have := a4 i a h e
    rcases Nat.lt_or_eq_of_le this with z | z
    · exact z
    · subst z; exact absurd e (hn i)
  intro i k a b hik ea eb
  rw [hl] at ea eb
  by_cases h1 : i < p
  · rw [if_pos h1] at ea
    by_cases h2 : k < p
    · rw [if_pos h2] at eb; exact R i k a b hik ea eb
    · rw [if_neg h2] at eb
      by_cases h3 : k = p
      · rw [if_pos h3] at eb; cases eb; exact a3 i a h1 ea
      · rw [if_neg h3] at eb; exact R i (k - 1) a b (by omega) ea eb
  · rw [if_neg h1] at ea
    rw [if_neg (by omega)] at eb
    by_cases h3 : i = p
    · rw [if_pos h3] at ea; cases ea
      rw [if_neg (by omega)] at eb
      exact lt4 _ _ (by omega) eb
    · rw [if_neg h3] at ea
      rw [if_neg (by omega)] at eb
      exact R (i - 1) (k - 1) a b (by omega) ea eb
theorem ris_range (n : Nat) : Ris (Array.range n) := by
  intro i j a b h ea eb
  have e1 := Array.getElem?_eq_some_iff.mp ea
  have e2 := Array.getElem?_eq_some_iff.mp eb
  obtain ⟨_, e1⟩ := e1
  obtain ⟨_, e2⟩ := e2
  simp at e1 e2
  omega
theorem slot_not {t : SetTable} (R : Ris t.place) {j : Nat} (h : ∀ i, t.slot j ≠ .live i) : ∀ i : Nat, t.place[i]? ≠ some j := by
  intro i e
  obtain ⟨a2, a3, a4⟩ := below_spec R j
  have hb : SetTable.below t.place j = i := by
    have hi : i < t.place.size := (Array.getElem?_eq_some_iff.mp e).1
    refine below_eq R (by omega) (fun k a hk ek => R k i a j hk ek e) (fun k a hk ek => ?_)
    rcases Nat.lt_or_eq_of_le hk with z | z
    · exact Nat.le_of_lt (R i k j a z e ek)
    · subst z; rw [e] at ek; cases ek; exact Nat.le_refl _
  refine h i ?_
  unfold SetTable.slot
  rw [hb, if_pos (by rw [e]; exact beq_self_eq_true _)]
theorem probe_go {t : SetTable} {hashAt : Nat → Int} {h : Int} : ∀ (fuel : Nat) (p : SetTable.Probe) {j : Nat} {d : Option Nat}, (∀ x, p.dummy = some x → ∀ i, t.slot x ≠ .live i) → SetTable.probe.go t hashAt h fuel p = some (.empty j d) → (∀ i, t.slot j ≠ .live i) ∧ ∀ x, d = some x → ∀ i, t.slot x ≠ .live i
  | 0, p, j, d, hd, e => by simp [SetTable.probe.go] at e
  | fuel + 1, p, j, d, hd, e => by
    unfold SetTable.probe.go at e
    have adv : ∀ q : SetTable.Probe, (t.advance q).dummy = q.dummy := fun q => by unfold SetTable.advance; split <;> rfl
    split at e
    · rename_i hs
      cases e
      exact ⟨(fun i z => by rw [hs] at z; cases z), hd⟩
    · rename_i hs
      refine probe_go fuel _ (fun x hx i z => ?_) e
      rw [adv] at hx
      cases hx
      rw [hs] at z; cases z
    · rename_i k hs
      split at e
      · cases e
      · exact probe_go fuel _ (fun x hx => hd x (by rw [adv] at hx; exact hx)) e
theorem free_not {t : SetTable} (R : Ris t.place) {h : Int} {j : Nat} {b : Bool} (e : t.freeSlot h = some (j, b)) : ∀ i : Nat, t.place[i]? ≠ some j := by
  unfold SetTable.freeSlot at e
  split at e
  · rename_i k d hp
    obtain ⟨a1, a2⟩ := probe_go _ _ (fun x hx => by cases hx) (show SetTable.probe.go t _ h _ (t.probeStart h) = some (.empty k d) from hp)
    cases d with
    | none => cases e; exact slot_not R a1
    | some x => cases e; exact slot_not R (a2 x rfl)
  · cases e
theorem stand_ris (t : SetTable) (n : Nat) : Ris (t.standIn n).place ∧ (t.standIn n).led = t.led := ⟨ris_range n, rfl⟩
theorem lay_ris {t : SetTable} (R : Ris t.place) (es : Array (Int × Value)) (h : Int) (x : Value) : Ris (layNew t es h x).2.1.place ∧ (layNew t es h x).2.1.led = t.led := by
  unfold layNew
  split
  · rename_i j b e
    have hn := free_not R e
    dsimp only
    unfold SetTable.orStandIn
    split
    · exact ⟨ris_put R hn, rfl⟩
    · exact stand_ris _ _
  · exact stand_ris _ _
theorem laid_ris {mask finger moves : Nat} {led plain : Bool} {hs : Array Int} {t : SetTable} {o : Array Nat} (e : SetTable.laid mask finger moves led plain hs = some (t, o)) : Ris t.place ∧ t.led = led := by
  unfold SetTable.laid at e
  cases ho : SetTable.layClean mask hs with
  | none => rw [ho] at e; cases e
  | some owner =>
    rw [ho] at e
    cases e
    refine ⟨?_, rfl⟩
    have hp : (((List.range (mask + 1)).filterMap fun j => (owner.getD j none).map (j, ·)).map (·.1)).Pairwise (· < ·) := by
      rw [List.pairwise_map]
      refine List.Pairwise.filterMap _ (fun a a' hlt b hb b' hb' => ?_) (List.pairwise_lt_range (n := mask + 1))
      simp only [Option.mem_def, Option.map_eq_some_iff] at hb hb'
      obtain ⟨_, _, rfl⟩ := hb
      obtain ⟨_, _, rfl⟩ := hb'
      exact hlt
    intro i k a b hik ea eb
    rw [← Array.getElem?_toList] at ea eb
    obtain ⟨h1, e1⟩ := List.getElem?_eq_some_iff.mp ea
    obtain ⟨h2, e2⟩ := List.getElem?_eq_some_iff.mp eb
    have := List.pairwise_iff_getElem.mp hp i k (by simpa using h1) (by simpa using h2) hik
    simp only at e1 e2
    rw [← e1, ← e2]
    simpa using this
theorem relay_ris (t : SetTable) (R : Ris t.place) (es : Array (Int × Value)) (n : Nat) : Ris (relayAll t es n).2.1.place ∧ (relayAll t es n).2.1.led = t.led := by
  unfold relayAll
  split
  · rename_i t' o e
    unfold SetTable.relaid at e
    obtain ⟨a1, a2⟩ := laid_ris e
    dsimp only
    split
    · exact ⟨a1, a2⟩
    · exact stand_ris _ _
  · exact stand_ris _ _
end ZT
set_option linter.all false
set_option maxRecDepth 100000
namespace ZT
open PySem PyProof PyProof.Rows
noncomputable def kv : Value → Int
  | .int k _ => k
  | _ => 0
section
variable {prog : Program} {w : World} {A : Around} {E : Value → Shared → Prop} {s : Shared} {a : Addr} {ks : List Int} {led : Bool}
noncomputable def SO (prog : Program) (w : World) (h : Heap) (a : Addr) (ks : List Int) (led : Bool) : Prop :=
  ∃ o es ep t, h.get? a = some o ∧ o.ExactSet ∧ o.data = .set es ep t ∧ ElemsOf (intKind prog w) es.toList ∧ List.Perm (es.toList.map fun e => kv e.2) ks ∧ ks.Nodup ∧ t.fits es.size = true ∧ t.led = led ∧ Ris t.place
theorem SO.at {h h' : Heap} (S : SO prog w h a ks led) (e : ∀ o, h.get? a = some o → h'.get? a = some o) : SO prog w h' a ks led := by
  obtain ⟨o, es, ep, t, ho, r⟩ := S
  exact ⟨o, es, ep, t, e o ho, r⟩
theorem is_kv {k : Int} {v : Value} (h : (intKind prog w).is k v = true) : k = kv v := by
  obtain ⟨t, rfl⟩ := Value.isInt_shape (k := k) (v := v) h
  rfl
theorem el_is {l : List (Int × Value)} (hel : ElemsOf (intKind prog w) l) {e : Int × Value} (he : e ∈ l) : (intKind prog w).is (kv e.2) e.2 = true := by
  obtain ⟨⟨k, hk, _⟩, _⟩ := hel e he
  rw [← is_kv hk]; exact hk
theorem store_so {es es1 : Array (Int × Value)} {ep : Nat} {t t1 : SetTable} {o : Obj} {Q : Unit → Shared → Prop} (ho : s.heap.get? a = some o) (hx : o.ExactSet) (hd : o.data = .set es ep t) (hb : es1.size < scanBound)
    (q : ∀ h', Heap.SameBut a s.heap h' → h'.get? a = some { o with data := .set es1 (ep + 1) t1 } → Q () { s with heap := h' }) : wpAny (model prog w) A (storeSet a es1 t1) Q E s := by
  refine wpAny_storeSet_of ho hd (q _ (Heap.SameBut.update s.heap a _) ?_) (fits_of_scanBound hb)
  have e := Heap.get?_update_self (Obj.putSet es1 t1) ho (by rw [putSet_of es1 t1 hd]; rfl)
  rwa [putSet_of es1 t1 hd] at e
theorem so_add {k : Int} {tk : Tok} {Q : Bool → Shared → Prop} (S : SO prog w s.heap a ks led) (hroom : ks.length + 1 < scanBound)
    (q : ∀ b h', Heap.SameBut a s.heap h' → SO prog w h' a (if k ∈ ks then ks else ks ++ [k]) led → Q b { s with heap := h' }) : wpAny (model prog w) A (setAddHashed a (.int k tk) ((intKind prog w).hash k)) Q E s := by
  obtain ⟨o, es, ep, t, ho, hx, hd, hel, hp, hnd, hf, hled, hr⟩ := S
  have hsz : es.size = ks.length := by have := hp.length_eq; simpa using this
  have hki : (intKind prog w).is k (.int k tk) = true := intKind_is _ _ _ _
  have hbs : byScan (.int k tk) es = true := byScan_of (knd := intKind prog w) rfl (by omega) hel
  have gw : ∀ (b : Bool) (s₁ : Shared) (Q' : Unit → Shared → Prop), Q' () s₁ → wpAny (model prog w) A (match b with | true => rule "set.scan.the-table-gave-way" | false => pure ()) Q' E s₁ := fun b s₁ Q' z => by
    cases b
    · exact wpAny_pure z
    · exact wpAny_rule z
  unfold setAddHashed
  refine wpAny_holding ?_
  unfold setAddHashedIn
  refine wpAny_bind (wpAny_setState_of (t := t) ho hd hf ?_)
  dsimp only
  rw [hbs, if_pos rfl]
  refine wpAny_bind ?_
  unfold setAddByScan
  refine wpAny_bind (wpAny_rule ?_)
  refine wpAny_bind (wpAny_setScan_of (t := t) hki ho hd hf hel ?_)
  have mem : k ∈ ks ↔ ∃ e ∈ es.toList, (intKind prog w).is k e.2 = true := by
    rw [← hp.mem_iff, List.mem_map]
    constructor
    · rintro ⟨e, he, rfl⟩; exact ⟨e, he, el_is hel he⟩
    · rintro ⟨e, he, hk⟩; exact ⟨e, he, (is_kv hk).symm⟩
  cases hfi : es.toList.findIdx? (fun e => (intKind prog w).is k e.2) with
  | some j =>
    obtain ⟨hj, hpj, _⟩ := List.findIdx?_eq_some_iff_getElem.mp hfi
    have hk : k ∈ ks := mem.mpr ⟨_, List.getElem_mem hj, hpj⟩
    have q' := q false s.heap (Heap.SameBut.refl a s.heap) (by rw [if_pos hk]; exact ⟨o, es, ep, t, ho, hx, hd, hel, hp, hnd, hf, hled, hr⟩)
    exact wpAny_pure (wpAny_pure q')
  | none =>
    have hk : k ∉ ks := fun z => by
      obtain ⟨e, he, h1⟩ := mem.mp z
      have := List.findIdx?_eq_none_iff.mp hfi e he
      rw [h1] at this; cases this
    rw [if_neg hk] at q
    have hpm := layNew_perm t es ((intKind prog w).hash k) (.int k tk)
    have hft := layNew_fits t es ((intKind prog w).hash k) (.int k tk)
    obtain ⟨hr1, hl1⟩ := lay_ris hr es ((intKind prog w).hash k) (.int k tk)
    dsimp only
    generalize layNew t es ((intKind prog w).hash k) (.int k tk) = L at hpm hft hr1 hl1 ⊢
    obtain ⟨es1, t1, wd, gv⟩ := L
    dsimp only at hpm hft hr1 hl1 ⊢
    rw [Array.toList_push] at hpm
    have hel1 : ElemsOf (intKind prog w) es1.toList := (hel.push hki rfl).perm hpm
    have hp1 : List.Perm (es1.toList.map fun e => kv e.2) (ks ++ [k]) := by
      refine (hpm.map _).trans ?_
      rw [List.map_append]
      exact hp.append_right _
    have hn1 : (ks ++ [k]).Nodup := List.nodup_append.mpr ⟨hnd, (by simp), fun x hx y hy z => by
      rw [List.mem_singleton.mp hy] at z; exact hk (z ▸ hx)⟩
    have hz1 : es1.size < scanBound := by
      have := hp1.length_eq
      simp at this
      omega
    refine wpAny_bind (gw gv s _ ?_)
    have hv : hashByValue 8 (.int k tk) = pure true := hashByValue_scannable 8 rfl
    have fin : wpAny (model prog w) A (do
        storeSet a es1 t1
        if (!wd && t1.tooFull) = true then do
            (match (relayAll t1 es1 (SetTable.grown es1.size)).2.2 with | true => rule "set.scan.the-table-gave-way" | false => pure ())
            storeSet a (relayAll t1 es1 (SetTable.grown es1.size)).1 (relayAll t1 es1 (SetTable.grown es1.size)).2.1
            pure (some true)
          else pure (some true)) (fun r s' => wpAny (model prog w) A (match r with | some added => pure added | none => setAddHashedIn a (.int k tk) ((intKind prog w).hash k) 99999) Q E s') E s := by
      refine wpAny_bind (store_so ho hx hd hz1 fun h1 sb1 e1 => ?_)
      split
      · have hpr := relayAll_perm t1 es1 (SetTable.grown es1.size)
        have hfr := relayAll_fits t1 es1 (SetTable.grown es1.size)
        obtain ⟨hr2, hl2⟩ := relay_ris t1 hr1 es1 (SetTable.grown es1.size)
        generalize relayAll t1 es1 (SetTable.grown es1.size) = L at hpr hfr hr2 hl2 ⊢
        obtain ⟨es2, t2, gv2⟩ := L
        dsimp only at hpr hfr hr2 hl2 ⊢
        refine wpAny_bind (gw gv2 _ _ ?_)
        have hz2 : es2.size < scanBound := by have := hpr.length_eq; simp at this; omega
        refine wpAny_bind (store_so (s := { s with heap := h1 }) e1 hx rfl hz2 fun h2 sb2 e2 => ?_)
        exact wpAny_pure (wpAny_pure (q true h2 (sb1.trans sb2) ⟨_, es2, _, t2, e2, hx, rfl, hel1.perm hpr, (hpr.map _).trans hp1, hn1, hfr, hl2.trans (hl1.trans hled), hr2⟩))
      · exact wpAny_pure (wpAny_pure (q true h1 sb1 ⟨_, es1, _, t1, e1, hx, rfl, hel1, hp1, hn1, hft, hl1.trans hled, hr1⟩))
    split
    · rw [hv]
      refine wpAny_bind (wpAny_pure ?_)
      simp only [if_true]
      exact fin
    · refine wpAny_bind (wpAny_pure ?_)
      simp only [if_true]
      exact fin
end
end ZT
set_option linter.all false
set_option maxRecDepth 100000
set_option maxHeartbeats 4000000
namespace ZT
open PySem PyProof PyProof.Rows
section
variable {prog : Program} {w : World} {A : Around} {R : Result → Shared → Prop} {I a : Addr} {fp wr : List Addr} {G : Array GenState → Array GenState → Prop} {n : Nat} {P : Nat → Value → Prop} {St : Nat → Shared → Prop} {led : Bool}
theorem so_loop (W : WalksS prog w A.in1 I fp wr G n P St) (ha : a ∉ fp) (val : Nat → Int) (hval : ∀ i v, P i v → ∃ t, v = .int (val i) t) (hb : n + 1 < scanBound) : ∀ (m i : Nat) (s : Shared) (ks : List Int), i + m = n → St i s → SO prog w s.heap a ks led → ks.length ≤ i → (∀ x ∈ ks, ∃ j, j < n ∧ x = val j) →
    (∀ s' ks', Moved (a :: wr) G s s' → SO prog w s'.heap a ks' led → ks'.length ≤ n → (∀ x ∈ ks', ∃ j, j < n ∧ x = val j) → R (.ok (.ret .none)) s') → codeAny (model prog w) A (.builtin "set.update.loop" ⟨[.ref a, .ref I], []⟩) R s := by
  have haw : a ∉ wr := fun z => ha (W.sub _ z)
  have hsub : ∀ b ∈ wr, b ∈ a :: wr := fun b hb => List.mem_cons_of_mem _ hb
  intro m
  induction m with
  | zero =>
    intro i s ks hk hst S hl hks hR
    have : i = n := by omega
    subst this
    refine codeAny_builtin PyProof.Rows.F.entry_set_update_loop ?_
    rw [Around.under_plainId PyProof.Rows.F.plain_set_update_loop _]
    refine wpAny_bind (m := pyNext (.ref I)) (W.done s _ _ hst fun s' hm => ?_)
    exact wpAny_pure (hR s' ks (hm.mono hsub) (S.at fun o e => hm.heap a o haw e) hl hks)
  | succ m ih =>
    intro i s ks hk hst S hl hks hR
    have hlt : i < n := by omega
    refine codeAny_builtin PyProof.Rows.F.entry_set_update_loop ?_
    rw [Around.under_plainId PyProof.Rows.F.plain_set_update_loop _]
    refine wpAny_bind (m := pyNext (.ref I)) (W.item i s _ _ hlt hst fun v s1 hP hst1 hm => ?_)
    obtain ⟨t, rfl⟩ := hval i v hP
    have S1 : SO prog w s1.heap a ks led := S.at fun o e => hm.heap a o haw e
    refine wpAny_bind (m := holding [Value.int (val i) t] (setAdd a (.int (val i) t))) (wpAny_holding ?_)
    unfold setAdd
    refine wpAny_holding ?_
    refine wpAny_bind ((intKind prog w).pyHash (k := val i) (intKind_is _ _ _ _) ?_)
    refine so_add (s := { s1 with toks := s1.toks + 1 }) S1 (by omega) fun bb h' sb S2 => ?_
    refine wpAny_pure ⟨plainId_quiet PyProof.Rows.F.plain_set_update_loop _, ih (i + 1) _ _ (by omega) (W.frame _ s1 _ _ hst1 (Nat.le_succ _) fun b hb o e => ?_) S2 ?_ ?_ fun s2 ks2 hm2 S3 l3 k3 => ?_⟩
    · rw [sb.2 b (fun z : b = a => ha (z ▸ hb))]; exact e
    · split
      · omega
      · simp; omega
    · intro x hx
      split at hx
      · exact hks x hx
      · rcases List.mem_append.mp hx with z | z
        · exact hks x z
        · exact ⟨i, hlt, List.mem_singleton.mp z⟩
    · refine hR s2 ks2 (Moved.trans W.gtrans ((hm.mono hsub).then_heap (Nat.le_succ _) fun b o hb e => ?_) hm2) S3 l3 k3
      rw [sb.2 b (fun z : b = a => hb (z ▸ List.mem_cons_self))]; exact e
end
section
variable {prog : Program} {w : World} {A : Around} {E : Value → Shared → Prop} {s : Shared}
theorem so_new {h : Heap} {led : Bool} {a : Addr} (e : h.get? a = some { cls := .type "set", dict := none, data := .set #[] 0 (.fresh 0 0 led) }) : SO prog w h a [] led :=
  ⟨_, #[], 0, _, e, ⟨rfl, rfl, rfl⟩, rfl, fun x hx => by simp at hx, by simp, List.nodup_nil, by cases led <;> decide, rfl, fun i j x y hij ex ey => by simp [SetTable.fresh] at ex⟩
end
end ZT
set_option linter.all false
set_option maxRecDepth 100000
set_option maxHeartbeats 4000000
namespace ZT
open PySem PyProof PyProof.Rows
section
variable {prog : Program} {w : World} {A : Around} {E : Value → Shared → Prop} {s : Shared}
noncomputable def ldW (w : World) : Bool := !(w.params.followText "set-order")
noncomputable def newSetObj (w : World) : Obj := { cls := .type "set", dict := none, data := .set #[] 0 (.fresh 0 0 (ldW w)) }
theorem st_new (x : Value) {Q₁ : Value → Shared → Prop} (h : Q₁ (.ref s.heap.objs.size) { s with heap := s.heap.push (newSetObj w) }) :
    codeAny (model prog w) A (.call (.builtin "set.__new__") ⟨[.type "set", x], []⟩) (wants Q₁ E) s := by
  refine codeAny_of_tree (show wpAny _ A.in1 (checkBuiltinCall "set.__new__" ⟨[.type "set", x], []⟩ >>= fun _ => again (.builtin "set.__new__" ⟨[.type "set", x], []⟩)) _ _ s from ?_)
  refine wpAny_bind (wpAny_of_eq (PySem.F.newCall_set_1 x) (wpAny_pure ⟨plainId_quiet PySem.F.plain_set_new _, ?_⟩))
  refine codeAny_builtin PySem.F.entry_set_new ?_
  rw [Around.under_plainId PySem.F.plain_set_new _]
  unfold Builtin.«set.__new__» Builtin.Frozenset.newClass
  have z := sub_set_self
  obtain ⟨hp, g, d, tk, os⟩ := s
  dsimp only
  wp_walk
  refine wpAny_askSetting (wpAny_pure ?_)
  simp only [newObj]
  exact wpAny_bind (wpAny_alloc (wpAny_pure (wpAny_pure h)))
theorem set_call {x : Value} {Q : Value → Shared → Prop}
    (hi : wpAny (model prog w) A.in1.in1 (Builtin.«set.__init__» ⟨[.ref s.heap.objs.size, x], []⟩)
      (fun fin s' => match fin with | .done f => wants (fun r s₂ => r = .none ∧ Q (.ref s.heap.objs.size) s₂) E (.ok f) s' | .again c' => c'.quiet = true ∧ codeAny (model prog w) A.in1 c' (wants (fun r s₂ => r = .none ∧ Q (.ref s.heap.objs.size) s₂) E) s')
      (fun e s' => wants (fun r s₂ => r = .none ∧ Q (.ref s.heap.objs.size) s₂) E (.error e) s') { s with heap := s.heap.push (newSetObj w) }) :
    wpAny (model prog w) A (call (.type "set") [x]) Q E s := by
  have ft := PySem.F.called_set
  obtain ⟨c, tl, hmro⟩ := ft.mro
  have hmade := ft.made
  have hsub := ft.sub
  have h1 := ft.notType
  have h2 := ft.canCreate
  have hct := PySem.F.typeCall_set_1 x
  refine wpAny_call (codeAny_of_tree (show wpAny _ _ (callAny (.type "set") _) _ _ _ from ?_))
  refine wpAny_pure ⟨Code.quiet_builtin _ (by decide +kernel), codeAny_builtin F.entry_type_call ?_⟩
  rw [Around.under_plain (weight_type_call_type "set" [x] []) rfl]
  repeat (any_goals (first | assumption | wp_step))
  refine codeAny_mono (st_new x (E := E) (Q₁ := fun obj s₁ => obj = .ref s.heap.objs.size ∧ s₁ = { s with heap := s.heap.push (newSetObj w) }) ⟨rfl, rfl⟩) fun r s₁ hr => ?_
  cases r with
  | error e => exact hr
  | ok fl =>
    cases fl with
    | ret obj =>
      obtain ⟨rfl, rfl⟩ := hr
      have hT : Shared.TypeIs { s with heap := s.heap.push (newSetObj w) } (.ref s.heap.objs.size) "set" := ⟨_, Heap.get?_push_size _ rfl, rfl⟩
      have hli := ft.init.lookup
      have hbi := ft.init.bind (.ref s.heap.objs.size)
      repeat (any_goals (first | assumption | wp_step))
      refine codeAny_mono (codeAny_call_builtin ft.init.plain PySem.F.entry_set_init (check_set_init_1 hT hi)) fun r₂ s₂ hr₂ => ?_
      cases r₂ with
      | error e => exact hr₂
      | ok fl₂ =>
        cases fl₂ with
        | ret r =>
          obtain ⟨rfl, hq⟩ := hr₂
          repeat (any_goals (first | assumption | wp_step))
        | _ => exact hr₂.elim
    | _ => exact hr.elim
theorem lst_set {l : Addr} {items : Array Value} {ns : List Int} {Q : Value → Shared → Prop} (hh : A.handled = none) (hl : s.heap.IsList l items) (hi : IntsAre items.toList ns) (hb : items.size + 1 < scanBound)
    (q : ∀ (h' : Heap) (tk : Nat) (ks : List Int), SO prog w h' s.heap.objs.size ks (ldW w) → ks.length ≤ items.size → (∀ x ∈ ks, x ∈ ns) → (∀ b o, b < s.heap.objs.size → s.heap.get? b = some o → h'.get? b = some o) → Q (.ref s.heap.objs.size) { s with heap := h', toks := tk }) :
    wpAny (model prog w) A (call (.type "set") [.ref l]) Q E s := by
  refine set_call ?_
  have hS : (s.heap.push (newSetObj w)).get? s.heap.objs.size = some (newSetObj w) := Heap.get?_push_size _ rfl
  obtain ⟨ol, hol, hcl, nl, hdl⟩ := hl
  obtain ⟨ocls, odict, odata, oslots⟩ := ol
  simp only at hcl hdl
  subst hcl hdl
  have hol' : (s.heap.push (newSetObj w)).get? l = some { cls := .type "list", dict := odict, data := .seq items nl, slots := oslots } := Heap.get?_push_of_some _ hol
  have hl1 : (s.heap.push (newSetObj w)).IsList l items := ⟨_, hol', rfl, nl, rfl⟩
  have lt1 : l < s.heap.objs.size := Heap.lt_size hol
  have sz : (s.heap.push (newSetObj w)).objs.size = s.heap.objs.size + 1 := Heap.size_push ..
  have f1 := PySem.F.sub_list_set
  have f2 := PySem.F.sub_list_frozenset
  have f3 : (Value.type "list" == Value.type "dict") = false := by decide
  unfold Builtin.«set.__init__» noKeywords Builtin.Frozenset.updateFrom
  unfold newSetObj at hS hol' hl1 sz ⊢
  generalize hPI : pyIter = PI
  wp_walk
  subst hPI
  refine wpAny_pyIter_list hl1 ?_
  refine wpAny_bind (wpAny_runValue ?_)
  have hh3 : A.in1.in1.in1.handled = none := by simp [hh]
  have ne1 : l ≠ (s.heap.push { cls := .type "set", dict := none, data := .set #[] 0 (.fresh 0 0 (ldW w)) }).objs.size := by rw [sz]; exact Nat.ne_of_lt (Nat.lt_succ_of_lt lt1)
  have hSf : s.heap.objs.size ∉ [(s.heap.push { cls := .type "set", dict := none, data := .set #[] 0 (.fresh 0 0 (ldW w)) }).objs.size, l] := by
    rw [sz]
    simp only [List.mem_cons, List.not_mem_nil, or_false, not_or]
    exact ⟨Nat.ne_of_lt (Nat.lt_succ_self _), Nat.ne_of_gt lt1⟩
  have hval : ∀ (i : Nat) (v : Value), items[i]? = some v → ∃ t, v = .int ((fun i => ns.getD i 0) i) t := fun i v hv => IntsAre.int_at hi i v (by rw [Array.getElem?_toList]; exact hv)
  have hln : ns.length = items.size := by have := IntsAre.length hi; simpa using this.symm
  refine so_loop (led := ldW w) (Walks.list hh3 _ l ne1 items).toS hSf (fun i => ns.getD i 0) hval hb items.size 0 _ [] (by omega) ⟨⟨_, Heap.get?_push_size _ rfl, rfl, rfl⟩, hl1.push _⟩ (so_new (Heap.get?_push_of_some _ hS)) (by simp) (fun x hx => by simp at hx) fun s' ks hm S hk hx => ?_
  obtain ⟨h', g', d', tk', os'⟩ := s'
  have eg : g' = s.gens := hm.gens
  have ed : d' = s.drawn := hm.drawn
  have eo : os' = s.os := hm.os
  subst eg ed eo
  refine wpAny_pure (wpAny_pure ⟨rfl, q h' tk' ks S hk (fun x z => ?_) fun b o hb e => ?_⟩)
  · obtain ⟨j, hj, rfl⟩ := hx x z
    have : j < ns.length := by omega
    simp [List.getD_eq_getElem?_getD, this]
  · refine hm.heap b o ?_ (Heap.get?_push_of_some _ (Heap.get?_push_of_some _ e))
    simp only [List.mem_cons, List.not_mem_nil, or_false, not_or]
    exact ⟨Nat.ne_of_lt hb, by rw [sz]; exact Nat.ne_of_lt (Nat.lt_succ_of_lt hb)⟩
end
end ZT
set_option linter.all false
set_option maxRecDepth 100000
set_option maxHeartbeats 4000000
namespace ZT
open PySem PyProof PyProof.Rows
theorem owner_si : Manifest.owners.lookup (String.ofList "rotareti_tes".toList.reverse) = some Manifest.sig_set_iterator := by kernel_rfl
theorem slot_si_next : Slot "set_iterator" "__next__" "set_iterator.__next__" :=
  .of (owner := "set_iterator") (n := "__next__") (by rw [typeLookup_type, builtinLookup_eq_fast]; kernel_rfl) (by decide +kernel) (by decide +kernel) (by decide +kernel) (by first | exact .inl (by decide +kernel) | exact .inr (by decide +kernel)) (by rw [isSubtype_type]; kernel_rfl)
theorem slot_si_iter : Slot "set_iterator" "__iter__" "set_iterator.__iter__" :=
  .of (owner := "set_iterator") (n := "__iter__") (by rw [typeLookup_type, builtinLookup_eq_fast]; kernel_rfl) (by decide +kernel) (by decide +kernel) (by decide +kernel) (by first | exact .inl (by decide +kernel) | exact .inr (by decide +kernel)) (by rw [isSubtype_type]; kernel_rfl)
theorem entry_si_next : entryFor table "set_iterator.__next__" = some Builtin.«set_iterator.__next__» := entryFor_of_tree (by kernel_rfl)
theorem entry_si_iter : entryFor table "set_iterator.__iter__" = some Builtin.«dict_keyiterator.__iter__» :=
  entryFor_alias (id' := "dict_keyiterator.__iter__") (by kernel_rfl) (by first | rfl | decide +kernel) (by decide +kernel) (by kernel_rfl)
theorem entry_set_iter : entryFor table "set.__iter__" = some Builtin.«frozenset.__iter__» :=
  entryFor_alias (id' := "frozenset.__iter__") (by kernel_rfl) (by first | rfl | decide +kernel) (by decide +kernel) (by kernel_rfl)
theorem args_si_next (a : Value) : argsOk "set_iterator.__next__" ⟨[a], []⟩ := by
  unfold argsOk; rw [signature?_of (id := "set_iterator.__next__") (n := "__txen__".toList) (o := "rotareti_tes".toList) (by kernel_rfl) owner_si]; kernel_rfl
theorem args_si_iter (a : Value) : argsOk "set_iterator.__iter__" ⟨[a], []⟩ := by
  unfold argsOk; rw [signature?_of (id := "set_iterator.__iter__") (n := "__reti__".toList) (o := "rotareti_tes".toList) (by kernel_rfl) owner_si]; kernel_rfl
end ZT
set_option linter.all false
set_option maxRecDepth 100000
set_option maxHeartbeats 4000000
namespace ZT
open PySem PyProof PyProof.Rows
section
variable {prog : Program} {w : World} {A : Around} {E : Value → Shared → Prop} {s : Shared} {I a : Addr} {es : Array (Int × Value)} {ep : Nat} {t : SetTable}
noncomputable def SetAt (h : Heap) (a : Addr) (es : Array (Int × Value)) (ep : Nat) (t : SetTable) : Prop := ∃ o, h.get? a = some o ∧ o.cls = .type "set" ∧ o.data = .set es ep t
noncomputable def IsSI (h : Heap) (I : Addr) (f : Value) (i : Nat) (a : Addr) (n ep : Nat) : Prop := ∃ o, h.get? I = some o ∧ o.cls = .type "set_iterator" ∧ o.data = .fields #[f, rawInt i, .ref a, rawInt n, rawInt ep]
theorem SetAt.at {h h' : Heap} (x : SetAt h a es ep t) (e : ∀ o, h.get? a = some o → h'.get? a = some o) : SetAt h' a es ep t := let ⟨o, ho, r⟩ := x; ⟨o, e _ ho, r⟩
theorem IsSI.at {h h' : Heap} {f : Value} {i n : Nat} (x : IsSI h I f i a n ep) (e : ∀ o, h.get? I = some o → h'.get? I = some o) : IsSI h' I f i a n ep := let ⟨o, ho, r⟩ := x; ⟨o, e _ ho, r⟩
theorem IsSI.typeIs {f : Value} {i n : Nat} (x : IsSI s.heap I f i a n ep) : s.TypeIs (.ref I) "set_iterator" := let ⟨o, ho, hc, _⟩ := x; ⟨o, ho, hc⟩
theorem st_stop {Q : Option Value → Shared → Prop} (hh : A.handled = none) (hQ : ∀ h', Heap.ExtBut I s.heap h' → Q none { s with heap := h' }) :
    wpAny (model prog w) A.in1 (newExc (.type "StopIteration") [] >>= fun x => raiseNew x) (fun (fin : Fin) s' => ∃ v, fin = .done (.ret v) ∧ wpAny (model prog w) A (pure (some v)) Q E s') (fun e s' => wpAny (model prog w) A (isInstance e (.type "StopIteration") >>= fun b => if b = true then pure none else throw e) Q E s') s := by
  refine wpAny_bind ?_
  simp only [newExc, newTuple]
  refine wpAny_bind (wpAny_newObj_type ?_ (by size_fits))
  refine wpAny_bind (m := firstArgMember _ _) (wpAny_of_eq (a := Value.none) (by first | rfl | (simp only [firstArgMember]; rfl)) ?_)
  refine wpAny_newObj_type ?_ (by size_fits)
  simp only [raiseNew]
  refine wpAny_bind (wpAny_handled ?_)
  rw [show A.in1.handled = none from hh]
  refine wpAny_bind (wpAny_pure (wpAny_throw ?_))
  refine wpAny_bind (wpAny_isInstance (T := "StopIteration") (b := true) ⟨_, Heap.get?_push_size _ rfl, rfl⟩ isSubtype_stop ?_)
  exact wpAny_pure (hQ _ (((Heap.ExtBut.refl _ _).push _).push _))
theorem ext_upd {f : Obj → Obj} {h : Heap} (x : Heap.ExtBut I (s.heap.update I f) h) : Heap.ExtBut I s.heap h := fun b o hb e => x b o hb ((Heap.get?_update_other _ _ (Ne.symm hb)).trans e)
theorem si_item {slot i slot' : Nat} {x : Value} {Q : Option Value → Shared → Prop} (hit : IsSI s.heap I (rawInt slot) i a es.size ep) (hs : SetAt s.heap a es ep t) (hf : t.fits es.size = true)
    (hN : ∀ (A' : Around) (E' : Value → Shared → Prop) (Q' : Option (Value × Nat) → Shared → Prop), Q' (some (x, slot')) s → wpAny (model prog w) A' (setNext a slot i ep) Q' E' s)
    (hQ : ∀ h', IsSI h' I (rawInt slot') (i + 1) a es.size ep → Heap.SameBut I s.heap h' → Q (some x) { s with heap := h' }) : wpAny (model prog w) A (pyNext (.ref I)) Q E s := by
  obtain ⟨o, ho, hc, hd⟩ := id hit
  obtain ⟨os, hos, hcs, hds⟩ := hs
  unfold pyNext
  refine wpAny_bind (wpAny_attempt (wpAny_callSpecial?_slot (name := Str.ofString "__next__") hit.typeIs slot_si_next (wpAny_call_entry slot_si_next hit.typeIs entry_si_next ?_ (args_si_next _))))
  unfold Builtin.«set_iterator.__next__»
  refine wpAny_bind (wpAny_of_eq (a := (Value.ref I, [])) rfl ?_)
  dsimp only
  refine wpAny_bind (wpAny_fieldsOf ho hd ?_)
  simp only [rawInt]
  refine wpAny_bind (wpAny_setEntries_of hos hds hf ?_)
  rw [if_neg (by simp)]
  simp only [Int.toNat_natCast]
  first
  | refine wpAny_bind (hN _ _ _ ?_)
  | (refine wpAny_bind (wpAny_pure ?_); refine wpAny_bind (hN _ _ _ ?_))
  dsimp only
  refine wpAny_bind (wpAny_setField ho hd (by simp) ?_)
  have e1 := Heap.get?_update_self (Obj.mapFields (·.setIfInBounds 0 (rawInt slot'))) ho (Obj.isFreed_of_fields (Obj.data_mapFields hd _))
  have d1 := Obj.data_mapFields hd (·.setIfInBounds 0 (rawInt slot'))
  refine wpAny_bind (wpAny_setField e1 d1 (by simp) ?_)
  have e2 := Heap.get?_update_self (Obj.mapFields (·.setIfInBounds 1 (rawInt ((i : Int) + 1)))) e1 (Obj.isFreed_of_fields (Obj.data_mapFields d1 _))
  have d2 := Obj.data_mapFields d1 (·.setIfInBounds 1 (rawInt ((i : Int) + 1)))
  refine wpAny_pure ⟨x, rfl, wpAny_pure (hQ _ ⟨_, e2, ?_, ?_⟩ ((Heap.SameBut.update ..).trans (Heap.SameBut.update ..)))⟩
  · rw [Obj.cls_mapFields, Obj.cls_mapFields]; exact hc
  · rw [d2]; simp
theorem si_end {slot i : Nat} {Q : Option Value → Shared → Prop} (hh : A.handled = none) (hit : IsSI s.heap I (rawInt slot) i a es.size ep) (hs : SetAt s.heap a es ep t) (hf : t.fits es.size = true)
    (hN : ∀ (A' : Around) (E' : Value → Shared → Prop) (Q' : Option (Value × Nat) → Shared → Prop), Q' none s → wpAny (model prog w) A' (setNext a slot i ep) Q' E' s)
    (hQ : ∀ h', Heap.ExtBut I s.heap h' → Q none { s with heap := h' }) : wpAny (model prog w) A (pyNext (.ref I)) Q E s := by
  obtain ⟨o, ho, hc, hd⟩ := id hit
  obtain ⟨os, hos, hcs, hds⟩ := hs
  unfold pyNext
  refine wpAny_bind (wpAny_attempt (wpAny_callSpecial?_slot (name := Str.ofString "__next__") hit.typeIs slot_si_next (wpAny_call_entry slot_si_next hit.typeIs entry_si_next ?_ (args_si_next _))))
  unfold Builtin.«set_iterator.__next__»
  refine wpAny_bind (wpAny_of_eq (a := (Value.ref I, [])) rfl ?_)
  dsimp only
  refine wpAny_bind (wpAny_fieldsOf ho hd ?_)
  simp only [rawInt]
  refine wpAny_bind (wpAny_setEntries_of hos hds hf ?_)
  rw [if_neg (by simp)]
  simp only [Int.toNat_natCast]
  first
  | refine wpAny_bind (hN _ _ _ ?_)
  | (refine wpAny_bind (wpAny_pure ?_); refine wpAny_bind (hN _ _ _ ?_))
  dsimp only
  refine wpAny_bind (wpAny_setField ho hd (by simp) ?_)
  exact st_stop (s := { s with heap := s.heap.update I _ }) hh fun h' x => hQ h' (ext_upd x)
theorem by_text {Q : Bool → Shared → Prop} (h : Q (w.params.followText "set-order") s) : wpAny (model prog w) A setsByText Q E s := by
  unfold setsByText
  exact wpAny_bind (wpAny_askSetting (wpAny_pure h))
theorem next_P {slot given : Nat} {Q : Option (Value × Nat) → Shared → Prop} (hs : SetAt s.heap a es ep t) (hf : t.fits es.size = true) (hb : w.params.followText "set-order" = false) (hd : (!t.plain && decide (es.size > 1)) = false) (hl : t.led = true)
    (h : Q (match es[SetTable.below t.place slot]?, t.place[SetTable.below t.place slot]? with | some (_, x), some j => some (x, j + 1) | _, _ => none) s) : wpAny (model prog w) A (setNext a slot given ep) Q E s := by
  obtain ⟨o, ho, _, hdt⟩ := hs
  unfold setNext
  refine wpAny_bind (wpAny_setState_of ho hdt hf ?_)
  dsimp only
  refine wpAny_bind (by_text ?_)
  rw [hb, if_neg (by decide)]
  show wpAny _ _ (if (!t.plain && decide (es.size > 1)) = true then _ else _) _ _ _
  rw [hd, if_neg (by decide)]
  refine wpAny_bind (show wpAny _ _ (if (!t.led && !es.isEmpty) = true then unsupported "set:maker-not-led" else pure ()) _ _ _ from ?_)
  rw [hl, if_neg (by simp)]
  exact wpAny_pure (wpAny_pure h)
theorem next_T {slot given : Nat} {Q : Option (Value × Nat) → Shared → Prop} (hs : SetAt s.heap a es ep t) (hf : t.fits es.size = true) (hb : w.params.followText "set-order" = true)
    (h : Q (((pickOrder (w.params.setOrder a ep) es)[given]?).map fun e => (e.2, slot)) s) : wpAny (model prog w) A (setNext a slot given ep) Q E s := by
  obtain ⟨o, ho, _, hdt⟩ := hs
  unfold setNext
  refine wpAny_bind (wpAny_setState_of ho hdt hf ?_)
  dsimp only
  refine wpAny_bind (by_text ?_)
  rw [hb, if_pos rfl, if_neg (by simp)]
  unfold setWalk
  refine wpAny_bind (wpAny_bind (wpAny_setState_of ho hdt hf ?_))
  dsimp only
  refine wpAny_bind (by_text ?_)
  rw [hb, if_pos rfl]
  exact wpAny_bind (wpAny_askSetting (wpAny_pure (wpAny_pure h)))
end
end ZT
set_option linter.all false
set_option maxRecDepth 100000
set_option maxHeartbeats 4000000
namespace ZT
open PySem PyProof PyProof.Rows
theorem erase_perm {α : Type} : ∀ {l : List α} {i : Nat} (hi : i < l.length), List.Perm (l[i] :: l.eraseIdx i) l
  | x :: l, 0, hi => .refl _
  | x :: l, i + 1, hi => by
    have := erase_perm (l := l) (i := i) (by simpa using hi)
    rw [List.getElem_cons_succ, List.eraseIdx_cons_succ]
    exact (List.Perm.swap _ _ _).trans (this.cons x)
theorem pick_go {α : Type} (next : Nat → Nat) : ∀ (fuel k : Nat) (left : List α) (out : Array α), left.length ≤ fuel → List.Perm (pickOrder.go next fuel k left out).toList (out.toList ++ left)
  | 0, k, left, out, h => by
    have : left = [] := List.eq_nil_of_length_eq_zero (by omega)
    subst this
    simp [pickOrder.go]
  | fuel + 1, k, left, out, h => by
    unfold pickOrder.go
    split
    · rename_i x e
      obtain ⟨hi, e⟩ := List.getElem?_eq_some_iff.mp e
      refine (pick_go next fuel (k + 1) _ _ (by rw [List.length_eraseIdx_of_lt hi]; omega)).trans ?_
      rw [Array.toList_push, List.append_assoc]
      refine List.Perm.append_left _ ?_
      rw [← e]
      exact erase_perm hi
    · rename_i e
      have : left = [] := by
        cases left with
        | nil => rfl
        | cons y r =>
          have := List.getElem?_eq_none_iff.mp e
          have h2 := Nat.mod_lt (next k) (show 0 < (y :: r).length by simp)
          omega
      subst this
      simp
theorem pick_perm {α : Type} (next : Nat → Nat) (xs : Array α) : List.Perm (pickOrder next xs).toList xs.toList := by
  have := pick_go next xs.size 0 xs.toList #[] (by simp)
  simpa [pickOrder] using this
section
variable {prog : Program} {w : World} {A : Around} {E : Value → Shared → Prop} {s : Shared} {I a : Addr} {es : Array (Int × Value)} {ep : Nat} {t : SetTable}
theorem w_choose {src : Source} {n : Nat} {Q : Nat → Shared → Prop} (hn : n ≠ 0) (h : ∀ i d, i < n → Q i { s with drawn := d }) : wpAny (model prog w) A (choose src n) Q E s := fun Γ p hΓ => by
  exact ⟨hn, h _ _ (Nat.mod_lt _ (Nat.pos_of_ne_zero hn))⟩
theorem w_draw {α : Type} : ∀ (n : Nat) (xs : List α) {s : Shared} {Q : List α → Shared → Prop}, xs.length = n → (∀ ys d, List.Perm ys xs → Q ys { s with drawn := d }) → wpAny (model prog w) A (drawOrder n xs) Q E s
  | 0, xs, s, Q, hl, h => by
    have : xs = [] := List.eq_nil_of_length_eq_zero hl
    subst this
    exact wpAny_pure (h [] s.drawn .nil)
  | n + 1, [], s, Q, hl, h => by cases hl
  | n + 1, x :: xs, s, Q, hl, h => by
    unfold drawOrder
    refine wpAny_bind (w_choose (by simp) fun i d hi => ?_)
    have e : (x :: xs)[i]? = some (x :: xs)[i] := List.getElem?_eq_getElem hi
    rw [e]
    dsimp only
    refine wpAny_bind (w_draw n _ (by rw [List.length_eraseIdx_of_lt hi]; simpa using hl) fun ys d' hp => ?_)
    exact wpAny_pure (h _ d' ((hp.cons _).trans (erase_perm hi)))
theorem si_self {f : Value} {i n : Nat} {Q : Value → Shared → Prop} (hit : IsSI s.heap I f i a n ep) (h : Q (.ref I) s) : wpAny (model prog w) A (pyIter (.ref I)) Q E s := by
  refine wpAny_pyIter_slot hit.typeIs slot_si_iter (wpAny_call_entry slot_si_iter hit.typeIs entry_si_iter ?_ (args_si_iter _))
  exact wpAny_pure ⟨_, rfl, "set_iterator", _, hit.typeIs, slot_si_next.lookup, h⟩
theorem walk_int {P : Nat → Value → Prop} {sl : Nat → Nat} (hh : A.handled = none) (hne : a ≠ I) (hf : t.fits es.size = true)
    (hN : ∀ i, i < es.size → ∃ x, P i x ∧ ∀ (s : Shared) (A' : Around) (E' : Value → Shared → Prop) (Q' : Option (Value × Nat) → Shared → Prop), SetAt s.heap a es ep t → Q' (some (x, sl (i + 1))) s → wpAny (model prog w) A' (setNext a (sl i) i ep) Q' E' s)
    (hE : ∀ (s : Shared) (A' : Around) (E' : Value → Shared → Prop) (Q' : Option (Value × Nat) → Shared → Prop), SetAt s.heap a es ep t → Q' none s → wpAny (model prog w) A' (setNext a (sl es.size) es.size ep) Q' E' s) :
    Walks prog w A I [I, a] [I] es.size P (fun i h => IsSI h I (rawInt (sl i)) i a es.size ep ∧ SetAt h a es ep t) where
  sub := fun b hb => by simp at hb; simp [hb]
  frame := fun i h h' x hk => ⟨x.1.at fun o e => hk I (by simp) o e, x.2.at fun o e => hk a (by simp) o e⟩
  item := fun i s Q E hi x hQ => by
    obtain ⟨v, hv, hn⟩ := hN i hi
    refine si_item x.1 x.2 hf (fun A' E' Q' q => hn s A' E' Q' x.2 q) fun h' hit' sb => ?_
    exact hQ v h' s.toks hv ⟨hit', x.2.at fun o e => (sb.2 a hne).trans e⟩ fun b o hb e => sb.extBut b o (fun z => hb (by simp [z])) e
  done := fun s Q E x hQ => by
    refine si_end hh x.1 x.2 hf (fun A' E' Q' q => hE s A' E' Q' x.2 q) fun h' he => ?_
    exact hQ h' s.toks fun b o hb e => he b o (fun z => hb (by simp [z])) e
  self := fun i s Q E x hQ => si_self x.1 hQ
noncomputable def slP (t : SetTable) : Nat → Nat
  | 0 => 0
  | i + 1 => t.place.getD i 0 + 1
theorem below_slP (R : Ris t.place) {i : Nat} (hi : i ≤ t.place.size) : SetTable.below t.place (slP t i) = i := by
  cases i with
  | zero => exact below_eq R (Nat.zero_le _) (fun i a h => absurd h (Nat.not_lt_zero _)) (fun i a _ _ => Nat.zero_le _)
  | succ i =>
    have e : t.place[i]? = some t.place[i] := by simp [show i < t.place.size by omega]
    have g : t.place.getD i 0 = t.place[i] := by simp [Array.getD, show i < t.place.size by omega]
    refine below_eq R hi (fun k b hk ek => ?_) (fun k b hk ek => ?_)
    · show b < t.place.getD i 0 + 1
      rw [g]
      rcases Nat.lt_or_eq_of_le (Nat.le_of_lt_succ hk) with z | z
      · have := R k i b _ z ek e; omega
      · subst z; rw [e] at ek; cases ek; exact Nat.lt_succ_self _
    · show t.place.getD i 0 + 1 ≤ b
      rw [g]
      exact R i k _ b (by omega) e ek
theorem walk_P (hh : A.handled = none) (hne : a ≠ I) (hf : t.fits es.size = true) (R : Ris t.place) (hb : w.params.followText "set-order" = false) (hd : (!t.plain && decide (es.size > 1)) = false) (hl : t.led = true) :
    Walks prog w A I [I, a] [I] es.size (fun i v => (es.toList.map (·.2))[i]? = some v) (fun i h => IsSI h I (rawInt (slP t i)) i a es.size ep ∧ SetAt h a es ep t) := by
  have hz : t.place.size = es.size := by simp only [SetTable.fits, Bool.and_eq_true, beq_iff_eq] at hf; exact hf.1
  refine walk_int hh hne hf (fun i hi => ⟨es[i].2, by simp [hi], fun s A' E' Q' hs q => next_P hs hf hb hd hl ?_⟩) fun s A' E' Q' hs q => next_P hs hf hb hd hl ?_
  · rw [below_slP R (by omega)]
    have e1 : es[i]? = some es[i] := by simp [hi]
    have e2 : t.place[i]? = some (t.place[i]'(by omega)) := by simp [show i < t.place.size by omega]
    have g : t.place.getD i 0 = t.place[i]'(by omega) := by simp [Array.getD, show i < t.place.size by omega]
    rw [e1, e2]
    dsimp only
    rw [← g]
    exact q
  · rw [below_slP R (by omega)]
    have e1 : es[es.size]? = none := by simp
    rw [e1]
    exact q
theorem walk_T (hh : A.handled = none) (hne : a ≠ I) (hf : t.fits es.size = true) (hb : w.params.followText "set-order" = true) :
    Walks prog w A I [I, a] [I] es.size (fun i v => ((pickOrder (w.params.setOrder a ep) es).toList.map (·.2))[i]? = some v) (fun i h => IsSI h I (rawInt ((fun _ => 0 : Nat → Nat) i : Nat)) i a es.size ep ∧ SetAt h a es ep t) := by
  have hz : (pickOrder (w.params.setOrder a ep) es).size = es.size := by have := (pick_perm (w.params.setOrder a ep) es).length_eq; simpa using this
  refine walk_int (sl := fun _ => 0) hh hne hf (fun i hi => ⟨((pickOrder (w.params.setOrder a ep) es)[i]'(by omega)).2, by simp [hz, hi], fun s A' E' Q' hs q => next_T hs hf hb ?_⟩) fun s A' E' Q' hs q => next_T hs hf hb ?_
  · rw [show (pickOrder (w.params.setOrder a ep) es)[i]? = some ((pickOrder (w.params.setOrder a ep) es)[i]'(by omega)) by simp [hz, hi]]
    exact q
  · rw [show (pickOrder (w.params.setOrder a ep) es)[es.size]? = none by simp [hz]]
    exact q
end
end ZT
set_option linter.all false
set_option maxRecDepth 100000
set_option maxHeartbeats 4000000
namespace ZT
open PySem PyProof PyProof.Rows
section
variable {prog : Program} {w : World} {A : Around} {E : Value → Shared → Prop} {s : Shared} {I a T : Addr} {es : Array (Int × Value)} {ep : Nat} {t : SetTable} {L : List Nat}
noncomputable def DrawnAt (h : Heap) (T : Addr) (L : List Nat) : Prop := ∃ o, h.get? T = some o ∧ o.data = .seq (L.map fun (i : Nat) => rawInt i).toArray
theorem DrawnAt.at {h h' : Heap} (x : DrawnAt h T L) (e : ∀ o, h.get? T = some o → h'.get? T = some o) : DrawnAt h' T L := let ⟨o, ho, r⟩ := x; ⟨o, e _ ho, r⟩
theorem drawn_at {j : Nat} {x : Int × Value} {Q : Value → Shared → Prop} (hs : SetAt s.heap a es ep t) (hf : t.fits es.size = true) (hx : es[j]? = some x) (h : Q x.2 s) : wpAny (model prog w) A (setNextDrawn a j ep) Q E s := by
  obtain ⟨o, ho, _, hd⟩ := hs
  unfold setNextDrawn
  refine wpAny_bind (wpAny_setState_of ho hd hf ?_)
  dsimp only
  rw [if_neg (by simp), hx]
  exact wpAny_pure h
theorem sd_item {i j : Nat} {x : Int × Value} {Q : Option Value → Shared → Prop} (hit : IsSI s.heap I (.ref T) i a es.size ep) (hs : SetAt s.heap a es ep t) (hf : t.fits es.size = true) (hT : DrawnAt s.heap T L) (hj : L[i]? = some j) (hx : es[j]? = some x)
    (hQ : ∀ h', IsSI h' I (.ref T) (i + 1) a es.size ep → Heap.SameBut I s.heap h' → Q (some x.2) { s with heap := h' }) : wpAny (model prog w) A (pyNext (.ref I)) Q E s := by
  obtain ⟨o, ho, hc, hd⟩ := id hit
  obtain ⟨os, hos, hcs, hds⟩ := id hs
  obtain ⟨oT, hoT, hdT⟩ := hT
  unfold pyNext
  refine wpAny_bind (wpAny_attempt (wpAny_callSpecial?_slot (name := Str.ofString "__next__") hit.typeIs slot_si_next (wpAny_call_entry slot_si_next hit.typeIs entry_si_next ?_ (args_si_next _))))
  unfold Builtin.«set_iterator.__next__»
  refine wpAny_bind (wpAny_of_eq (a := (Value.ref I, [])) rfl ?_)
  dsimp only
  refine wpAny_bind (wpAny_fieldsOf ho hd ?_)
  simp only [rawInt]
  refine wpAny_bind (wpAny_setEntries_of hos hds hf ?_)
  rw [if_neg (by simp)]
  simp only [Int.toNat_natCast]
  have eL : (L.map fun (i : Nat) => rawInt i).toArray[i]? = some (.int j 0) := by simp [hj, rawInt]
  first
  | refine wpAny_bind (wpAny_seqItems hoT hdT ?_)
  | (refine wpAny_bind (wpAny_pure ?_); refine wpAny_bind (wpAny_seqItems hoT hdT ?_))
  dsimp only
  rw [eL]
  dsimp only
  rw [Int.toNat_natCast]
  refine wpAny_bind (drawn_at hs hf hx ?_)
  refine wpAny_bind (wpAny_setField ho hd (by simp) ?_)
  have e1 := Heap.get?_update_self (Obj.mapFields (·.setIfInBounds 1 (rawInt ((i : Int) + 1)))) ho (Obj.isFreed_of_fields (Obj.data_mapFields hd _))
  have d1 := Obj.data_mapFields hd (·.setIfInBounds 1 (rawInt ((i : Int) + 1)))
  refine wpAny_pure ⟨x.2, rfl, wpAny_pure (hQ _ ⟨_, e1, ?_, ?_⟩ (Heap.SameBut.update ..))⟩
  · rw [Obj.cls_mapFields]; exact hc
  · rw [d1]; simp
theorem sd_end {i : Nat} {Q : Option Value → Shared → Prop} (hh : A.handled = none) (hit : IsSI s.heap I (.ref T) i a es.size ep) (hs : SetAt s.heap a es ep t) (hf : t.fits es.size = true) (hT : DrawnAt s.heap T L) (hj : L[i]? = none)
    (hQ : ∀ h', Heap.ExtBut I s.heap h' → Q none { s with heap := h' }) : wpAny (model prog w) A (pyNext (.ref I)) Q E s := by
  obtain ⟨o, ho, hc, hd⟩ := id hit
  obtain ⟨os, hos, hcs, hds⟩ := id hs
  obtain ⟨oT, hoT, hdT⟩ := hT
  unfold pyNext
  refine wpAny_bind (wpAny_attempt (wpAny_callSpecial?_slot (name := Str.ofString "__next__") hit.typeIs slot_si_next (wpAny_call_entry slot_si_next hit.typeIs entry_si_next ?_ (args_si_next _))))
  unfold Builtin.«set_iterator.__next__»
  refine wpAny_bind (wpAny_of_eq (a := (Value.ref I, [])) rfl ?_)
  dsimp only
  refine wpAny_bind (wpAny_fieldsOf ho hd ?_)
  simp only [rawInt]
  refine wpAny_bind (wpAny_setEntries_of hos hds hf ?_)
  rw [if_neg (by simp)]
  simp only [Int.toNat_natCast]
  have eL : (L.map fun (i : Nat) => rawInt i).toArray[i]? = none := by
    have := List.getElem?_eq_none_iff.mp hj
    simp; omega
  first
  | refine wpAny_bind (wpAny_seqItems hoT hdT ?_)
  | (refine wpAny_bind (wpAny_pure ?_); refine wpAny_bind (wpAny_seqItems hoT hdT ?_))
  dsimp only
  rw [eL]
  dsimp only
  refine wpAny_bind (wpAny_setField ho hd (by simp) ?_)
  have e1 := Heap.get?_update_self (Obj.mapFields (·.setIfInBounds 0 (rawInt 0))) ho (Obj.isFreed_of_fields (Obj.data_mapFields hd _))
  have d1 := Obj.data_mapFields hd (·.setIfInBounds 0 (rawInt 0))
  refine wpAny_bind (wpAny_setField e1 d1 (by simp) ?_)
  refine st_stop (I := I) (s := { s with heap := (s.heap.update I _).update I _ }) hh fun h' x => hQ h' ?_
  exact ext_upd (s := s) (ext_upd (s := { s with heap := s.heap.update I _ }) x)
theorem walk_D (hh : A.handled = none) (hne : a ≠ I) (hnT : T ≠ I) (hf : t.fits es.size = true) (hL : List.Perm L (List.range es.size)) :
    Walks prog w A I [I, a, T] [I] es.size (fun i v => (L.map fun j => (es.toList.map (·.2)).getD j .none)[i]? = some v) (fun i h => IsSI h I (.ref T) i a es.size ep ∧ SetAt h a es ep t ∧ DrawnAt h T L) where
  sub := fun b hb => by simp at hb; simp [hb]
  frame := fun i h h' x hk => ⟨x.1.at fun o e => hk I (by simp) o e, x.2.1.at fun o e => hk a (by simp) o e, x.2.2.at fun o e => hk T (by simp) o e⟩
  item := fun i s Q E hi x hQ => by
    have hl : L.length = es.size := by have := hL.length_eq; simpa using this
    have ej : L[i]? = some (L[i]'(by omega)) := List.getElem?_eq_getElem (by omega)
    have hj : L[i]'(by omega) < es.size := by have := hL.mem_iff.mp (List.getElem_mem (show i < L.length by omega)); simpa using this
    generalize L[i]'(by omega) = j at ej hj
    have ex : es[j]? = some es[j] := by simp [hj]
    refine sd_item x.1 x.2.1 hf x.2.2 ej ex fun h' hit' sb => ?_
    exact hQ _ h' s.toks (by simp [ej, hj, List.getD_eq_getElem?_getD]) ⟨hit', x.2.1.at fun o e => (sb.2 a hne).trans e, x.2.2.at fun o e => (sb.2 T hnT).trans e⟩ fun b o hb e => sb.extBut b o (fun z => hb (by simp [z])) e
  done := fun s Q E x hQ => by
    have hl : L.length = es.size := by have := hL.length_eq; simpa using this
    refine sd_end hh x.1 x.2.1 hf x.2.2 (List.getElem?_eq_none_iff.mpr (by omega)) fun h' he => ?_
    exact hQ h' s.toks fun b o hb e => he b o (fun z => hb (by simp [z])) e
  self := fun i s Q E x hQ => si_self x.1 hQ
theorem drawn_ok {Q : Bool → Shared → Prop} (hs : SetAt s.heap a es ep t) (hf : t.fits es.size = true) (h : Q (!(w.params.followText "set-order") && (!t.plain && decide (es.size > 1))) s) : wpAny (model prog w) A (setDrawn a) Q E s := by
  obtain ⟨o, ho, _, hd⟩ := hs
  unfold setDrawn
  refine wpAny_bind (wpAny_setState_of ho hd hf ?_)
  dsimp only
  exact wpAny_bind (by_text (wpAny_pure h))
theorem perm_at {es : Array (Int × Value)} {L : List Nat} (hL : List.Perm L (List.range es.size)) : List.Perm (L.map fun j => (es.toList.map (·.2)).getD j .none) (es.toList.map (·.2)) := by
  refine (hL.map _).trans ?_
  have : (List.range es.size).map (fun j => (es.toList.map (·.2)).getD j Value.none) = es.toList.map (·.2) := by
    refine List.ext_getElem? fun i => ?_
    by_cases hi : i < es.size
    · simp [hi, List.getD_eq_getElem?_getD]
    · simp [hi]
  rw [this]
theorem set_iter {Q : Value → Shared → Prop} (hs : SetAt s.heap a es ep t) (hf : t.fits es.size = true) (R : Ris t.place) (hl : t.led = ldW w) (hz : es.size < scanBound)
    (q : ∀ (I : Addr) (fp : List Addr) (P : Nat → Value → Prop) (St : Nat → Heap → Prop) (h' : Heap) (d : Drawn), (∀ A' : Around, A'.handled = none → Walks prog w A' I fp [I] es.size P St) → St 0 h' → s.heap.objs.size ≤ I → (∀ b ∈ fp, b = a ∨ s.heap.objs.size ≤ b) → (∀ b o, s.heap.get? b = some o → h'.get? b = some o) → (∃ vs : List Value, List.Perm vs (es.toList.map (·.2)) ∧ ∀ i v, P i v → vs[i]? = some v) → (∃ o, h'.get? I = some o ∧ o.cls = .type "set_iterator") → Q (.ref I) { s with heap := h', drawn := d }) :
    wpAny (model prog w) A (pyIter (.ref a)) Q E s := by
  obtain ⟨o, ho, hc, hd⟩ := id hs
  have la : a < s.heap.objs.size := Heap.lt_size ho
  have hT : s.TypeIs (.ref a) "set" := ⟨o, ho, hc⟩
  refine wpAny_pyIter_slot hT PySem.F.slot_set_iter (wpAny_call_entry PySem.F.slot_set_iter hT entry_set_iter ?_ (PySem.F.args_set_iter_1 _))
  unfold Builtin.«frozenset.__iter__»
  refine wpAny_bind (wpAny_of_eq (a := a) rfl ?_)
  unfold Builtin.Frozenset.sizeOf
  refine wpAny_bind (wpAny_bind (wpAny_setEntries_of ho hd hf (wpAny_pure ?_)))
  refine wpAny_bind (drawn_ok hs hf ?_)
  have fin : ∀ (s1 : Shared) (f : Value) (Q' : Fin → Shared → Prop), s1.heap.get? a = some o → (Q' (.done (.ret (.ref s1.heap.objs.size))) { s1 with heap := s1.heap.push { cls := .type "set_iterator", data := .fields #[f, rawInt 0, .ref a, rawInt es.size, rawInt ep] } }) → ∀ A' E', wpAny (model prog w) A' (do
      let n ← setEpoch a
      let r ← newFields "set_iterator" [f, rawInt 0, .ref a, rawInt es.size, rawInt n]
      ret r) Q' E' s1 := by
    intro s1 f Q' h1 h2 A' E'
    refine wpAny_bind (wpAny_setEpoch_of h1 hd hf ?_)
    unfold newFields
    exact wpAny_bind (wpAny_newObj_type (wpAny_pure h2) (by size_fits))
  cases hb : w.params.followText "set-order" with
  | true =>
    rw [if_neg (by simp)]
    refine wpAny_bind (wpAny_pure ?_)
    refine fin s (rawInt 0) _ ho ⟨_, rfl, "set_iterator", _, ⟨_, Heap.get?_push_size _ rfl, rfl⟩, slot_si_next.lookup, ?_⟩ _ _
    refine q _ _ _ _ _ s.drawn (fun A' hh => walk_T (I := s.heap.objs.size) (ep := ep) hh (Nat.ne_of_lt la) hf hb) ⟨⟨_, Heap.get?_push_size _ rfl, rfl, rfl⟩, hs.at fun o e => Heap.get?_push_of_some _ e⟩ (Nat.le_refl _) ?_ (fun b o e => Heap.get?_push_of_some _ e) ⟨_, (pick_perm _ es).map _, fun i v z => z⟩ ⟨_, Heap.get?_push_size _ rfl, rfl⟩
    intro b hb
    simp at hb
    rcases hb with rfl | rfl
    · exact .inr (Nat.le_refl _)
    · exact .inl rfl
  | false =>
    cases hp : (!t.plain && decide (es.size > 1)) with
    | false =>
      rw [if_neg (by simp)]
      refine wpAny_bind (wpAny_pure ?_)
      refine fin s (rawInt 0) _ ho ⟨_, rfl, "set_iterator", _, ⟨_, Heap.get?_push_size _ rfl, rfl⟩, slot_si_next.lookup, ?_⟩ _ _
      have hled : t.led = true := by rw [hl]; unfold ldW; rw [hb]; rfl
      refine q _ _ _ _ _ s.drawn (fun A' hh => walk_P (I := s.heap.objs.size) (ep := ep) hh (Nat.ne_of_lt la) hf R hb hp hled) ⟨⟨_, Heap.get?_push_size _ rfl, rfl, rfl⟩, hs.at fun o e => Heap.get?_push_of_some _ e⟩ (Nat.le_refl _) ?_ (fun b o e => Heap.get?_push_of_some _ e) ⟨_, .refl _, fun i v z => z⟩ ⟨_, Heap.get?_push_size _ rfl, rfl⟩
      intro b hb
      simp at hb
      rcases hb with rfl | rfl
      · exact .inr (Nat.le_refl _)
      · exact .inl rfl
    | true =>
      rw [if_pos (by rfl)]
      refine wpAny_bind (w_draw es.size (List.range es.size) List.length_range fun L d hL => ?_)
      have hlL : L.length = es.size := by have := hL.length_eq; simpa using this
      refine wpAny_bind (wpAny_newTuple ?_ (by simp only [List.length_map, hlL]; exact fits_of_scanBound hz))
      refine fin { s with heap := s.heap.push { cls := .type "tuple", data := .seq (L.map fun (i : Nat) => rawInt i).toArray }, drawn := d } (.ref s.heap.objs.size) _ (Heap.get?_push_of_some _ ho) ⟨_, rfl, "set_iterator", _, ⟨_, Heap.get?_push_size _ rfl, rfl⟩, slot_si_next.lookup, ?_⟩ _ _
      have sz : (s.heap.push { cls := .type "tuple", data := .seq (L.map fun (i : Nat) => rawInt i).toArray }).objs.size = s.heap.objs.size + 1 := Heap.size_push ..
      have kp : ∀ (x y : Obj) (b : Addr) (o : Obj), s.heap.get? b = some o → ((s.heap.push x).push y).get? b = some o := fun x y b o e => Heap.get?_push_of_some _ (Heap.get?_push_of_some _ e)
      refine q _ _ _ _ _ d (fun A' hh => walk_D (I := (s.heap.push { cls := .type "tuple", data := .seq (L.map fun (i : Nat) => rawInt i).toArray }).objs.size) (T := s.heap.objs.size) (ep := ep) (t := t) hh (by rw [sz]; exact Nat.ne_of_lt (Nat.lt_succ_of_lt la)) (by rw [sz]; exact Nat.ne_of_lt (Nat.lt_succ_self _)) hf hL) ⟨⟨_, Heap.get?_push_size _ rfl, rfl, rfl⟩, hs.at fun o e => kp _ _ _ o e, ⟨_, Heap.get?_push_of_some _ (Heap.get?_push_size _ rfl), rfl⟩⟩ (by rw [sz]; exact Nat.le_succ _) ?_ (fun b o e => kp _ _ b o e) ⟨_, perm_at hL, fun i v z => z⟩ ⟨_, Heap.get?_push_size _ rfl, rfl⟩
      intro b hb
      simp only [List.mem_cons, List.not_mem_nil, or_false] at hb
      rcases hb with rfl | rfl | rfl
      · exact .inr (by rw [sz]; exact Nat.le_succ _)
      · exact .inl rfl
      · exact .inr (Nat.le_refl _)
end
end ZT
set_option linter.all false
set_option maxRecDepth 100000
set_option maxHeartbeats 4000000
namespace ZT
open PySem PyProof PyProof.Rows
section
variable {prog : Program} {w : World} {A : Around} {E : Value → Shared → Prop} {s : Shared} {I a T : Addr} {es : Array (Int × Value)} {ep : Nat} {t : SetTable} {L : List Nat}
theorem hint_set {Q : Bool → Shared → Prop} (hT : s.TypeIs (.ref a) "set") (h : Q false s) : wpAny (model prog w) A (Builtin.List.listLengthHint (.ref a)) Q E s := by
  have l1 : typeLookup (.type "set") "__len__" = pure (some (.builtin "set.__len__")) := PySem.F.slot_set_len.lookup
  unfold Builtin.List.listLengthHint
  refine wpAny_bind (wpAny_specialOf hT l1 ?_)
  generalize hid : ("set.__len__" : String) = id0
  wp_delta
  rw [show splitId id0 = some ("set", "__len__") from by subst hid; decide +kernel]
  subst hid
  refine wpAny_bind (wpAny_isInstance (T := "set") (b := true) hT (by rw [isSubtype_type]; kernel_rfl) ?_)
  refine wpAny_ite_split (fun hab => absurd hab (by decide)) (fun _ => ?_)
  refine wpAny_ite_split (fun _ => ?_) (fun hab => absurd (by decide +kernel) hab)
  exact wpAny_bind (wpAny_typeOf hT (wpAny_pure h))
theorem touch_ok {S : Addr} {c : Nat} {Q : Unit → Shared → Prop} (hS : s.heap.get? S = some { cls := .type "list", dict := none, data := .seq #[] c, slots := #[] })
    (q : ∀ h' c', (∀ b o, b ≠ S → s.heap.get? b = some o → h'.get? b = some o) → h'.get? S = some { cls := .type "list", dict := none, data := .seq #[] c', slots := #[] } → Q () { s with heap := h' }) : wpAny (model prog w) A (Builtin.List.listTouch (.ref S)) Q E s := by
  unfold Builtin.List.listTouch
  refine wpAny_bind (m := Builtin.List.listUpdate (.ref S) _) (show wpAny _ _ (updateSeq S _) _ _ _ from wpAny_updateSeq hS rfl ?_)
  have e1 := Heap.get?_update_self (Obj.mapSeq (·.push Value.none)) hS rfl
  have e2 := Heap.get?_update_self (Obj.mapSeq (·.pop)) e1 rfl
  have kp : ∀ b o, b ≠ S → s.heap.get? b = some o → ((s.heap.update S (Obj.mapSeq (·.push Value.none))).update S (Obj.mapSeq (·.pop))).get? b = some o := fun b o hb e => by
    rw [Heap.get?_update_other _ _ (Ne.symm hb), Heap.get?_update_other _ _ (Ne.symm hb)]
    exact e
  exact (show wpAny _ _ (updateSeq S _) _ _ _ from wpAny_updateSeq e1 rfl (q _ _ kp e2))
theorem set_collect {Q : List Value → Shared → Prop} (hh : A.handled = none) (hs : SetAt s.heap a es ep t) (hf : t.fits es.size = true) (R : Ris t.place) (hl : t.led = ldW w) (hz : es.size < scanBound)
    (hQ : ∀ (h' : Heap) (tk : Nat) (d : Drawn) (vs : List Value), List.Perm vs (es.toList.map (·.2)) → s.heap.objs.size ≤ h'.objs.size → (∀ b o, s.heap.get? b = some o → h'.get? b = some o) → Q vs { s with heap := h', drawn := d, toks := tk }) : wpAny (model prog w) A (collect (.ref a)) Q E s := by
  obtain ⟨o, ho, hc, hd⟩ := id hs
  have la : a < s.heap.objs.size := Heap.lt_size ho
  unfold collect
  refine wpAny_bind (wpAny_runValue (codeAny_builtin PySem.F.entry_proto_collect ?_))
  rw [Around.under_plainId PySem.F.plain_proto_collect _]
  show wpAny _ A.in1 (newList [] >>= fun l => again (.builtin "list.__iadd__" ⟨[l, .ref a], []⟩)) _ _ s
  refine wpAny_bind (wpAny_newObj_type ?_)
  refine wpAny_pure ⟨plainId_quiet PySem.F.plain_list_iadd _, codeAny_builtin PySem.F.entry_list_iadd ?_⟩
  rw [Around.under_plainId PySem.F.plain_list_iadd _]
  have hs1 : SetAt (s.heap.push { cls := .type "list", data := .seq ([] : List Value).toArray }) a es ep t := hs.at fun o e => Heap.get?_push_of_some _ e
  have hS1 : (s.heap.push { cls := .type "list", data := .seq ([] : List Value).toArray }).get? s.heap.objs.size = some { cls := .type "list", data := .seq ([] : List Value).toArray } := Heap.get?_push_size _ rfl
  have sz : (s.heap.push { cls := .type "list", data := .seq ([] : List Value).toArray }).objs.size = s.heap.objs.size + 1 := Heap.size_push ..
  have hT1 : Shared.TypeIs { s with heap := s.heap.push { cls := .type "list", data := .seq ([] : List Value).toArray } } (.ref a) "set" := ⟨o, Heap.get?_push_of_some _ ho, hc⟩
  have h1 : Builtin.List.listSameRef (.ref s.heap.objs.size) (.ref a) = false := by
    have : s.heap.objs.size ≠ a := Nat.ne_of_gt la
    simp [Builtin.List.listSameRef, this]
  show wpAny _ A.in1 (Builtin.List.listExtendWith (.ref s.heap.objs.size) (.ref a) (.ref s.heap.objs.size)) _ _ _
  unfold Builtin.List.listExtendWith
  refine wpAny_bind (wpAny_typeOf hT1 ?_)
  rw [if_neg (by rw [h1]; decide)]
  refine wpAny_bind (set_iter (s := { s with heap := s.heap.push { cls := .type "list", data := .seq ([] : List Value).toArray } }) hs1 hf R hl hz fun I fp P St h' d W st0 hI hfp kp hP hTI => ?_)
  refine wpAny_bind (wpAny_holding (hint_set ⟨o, kp a o (Heap.get?_push_of_some _ ho), hc⟩ ?_))
  rw [if_pos (by decide)]
  refine wpAny_bind (wpAny_rule ?_)
  have nSf : s.heap.objs.size ∉ fp := fun hm => by
    rcases hfp _ hm with z | z
    · exact absurd z (Nat.ne_of_gt la)
    · rw [sz] at z; exact absurd z (Nat.not_succ_le_self _)
  have nI : ∀ b o, s.heap.get? b = some o → b ≠ I := fun b o e z => by
    rw [sz] at hI
    exact absurd (Nat.lt_of_lt_of_le (Nat.lt_succ_of_lt (Heap.lt_size e)) (z ▸ hI)) (Nat.lt_irrefl _)
  refine wpAny_bind (touch_ok (s := { s with heap := h', drawn := d }) (kp _ _ hS1) fun h2 c2 k2 e2 => ?_)
  have Wi := (W A.in1 hh).toS
  refine wpAny_pure ⟨plainId_quiet PySem.F.plain_extend_loop _, codeAny_extend_loopS Wi (fits_of_scanBound hz) _ nSf _ es.size 0 _ #[] c2 rfl (Nat.zero_le _) ((W A.in1 hh).frame 0 h' h2 st0 fun b hb o e => k2 b o (fun z => nSf (z ▸ hb)) e) e2 (ItemsOf.nil P) fun s' acc' c' hm hS' hacc => ?_⟩
  refine wpAny_bind (m := load s.heap.objs.size) (wpAny_load hS' ?_)
  have es' := Moved.eq_with hm
  obtain ⟨vs, hp, hv⟩ := hP
  have ea : acc'.toList = vs := by
    have l1 : acc'.size = es.size := hacc.1
    have l2 : vs.length = es.size := by have := hp.length_eq; simpa using this
    refine List.ext_getElem? fun i => ?_
    by_cases hi : i < acc'.size
    · have e1 : acc'[i]? = some acc'[i] := by simp [hi]
      rw [Array.getElem?_toList, e1]
      exact (hv i _ (hacc.2 i _ e1)).symm
    · rw [List.getElem?_eq_none (by simp; omega), List.getElem?_eq_none (by omega)]
  rw [← ea] at hp
  have fin := hQ s'.heap s'.toks d acc'.toList hp (Nat.le_of_lt (Heap.lt_size hS')) fun b o e => ?_
  · rw [es']
    exact wpAny_pure fin
  · have nb : b ≠ s.heap.objs.size := Nat.ne_of_lt (Heap.lt_size e)
    refine hm.heap b o ?_ (k2 b o nb (kp b o (Heap.get?_push_of_some _ e)))
    simp only [List.mem_cons, List.not_mem_nil, or_false, not_or]
    exact ⟨nb, nI b o e⟩
end
end ZT
set_option linter.all false
set_option maxRecDepth 100000
set_option maxHeartbeats 4000000
namespace ZT
open PySem PyProof PyProof.Rows
section
variable {prog : Program} {w : World} {A : Around} {E : Value → Shared → Prop} {s : Shared} {a : Addr} {ks : List Int}
theorem sorted_set {Q : Value → Shared → Prop} (hh : A.handled = none) (S : SO prog w s.heap a ks (ldW w)) (h64 : ks.length < 64)
    (q : ∀ (h' : Heap) (tk : Nat) (d : Drawn) (L : Addr) (out : Array Value) (ns : List Int) (n : Nat), IntsAre out.toList ns → List.Perm ns ks → s.heap.objs.size ≤ L → h'.get? L = some (seqObj "list" out n) → (∀ b o, s.heap.get? b = some o → h'.get? b = some o) → Q (.ref L) { s with heap := h', drawn := d, toks := tk }) :
    wpAny (model prog w) A (call (.builtin "sorted") [.ref a]) Q E s := by
  obtain ⟨o, es, ep, t, ho, hx, hd, hel, hp, hnd, hf, hled, hr⟩ := S
  have hsz : es.size = ks.length := by have := hp.length_eq; simpa using this
  refine Calls.call_function_entry kind_sorted plain_sorted entry_sorted (args_sorted1 _) ?_
  unfold Builtin.«sorted»
  refine wpAny_bind (m := checkCount "sorted" 1 1 _) (wpAny_pure ?_)
  refine wpAny_bind (set_collect hh ⟨o, ho, hx.1, hd⟩ hf hr hled (Nat.lt_trans (hsz ▸ h64) (by decide)) fun h1 tk d vs hv le kp => ?_)
  have hi : ∀ v, v ∈ vs → ∃ n t, v = .int n t := fun v z => by
    obtain ⟨e, he, rfl⟩ := List.mem_map.mp (hv.mem_iff.mp z)
    have := el_is hel he
    obtain ⟨t, e2⟩ := Value.isInt_shape (k := kv e.2) (v := e.2) this
    exact ⟨_, t, e2⟩
  have hI := intsAre_map vs hi
  have hk : List.Perm (vs.map numOf) ks := by
    have e1 : vs.map numOf = vs.map kv := List.map_congr_left fun v z => by
      obtain ⟨n, t, rfl⟩ := hi v z
      rfl
    rw [e1]
    refine (hv.map kv).trans ?_
    rw [List.map_map]
    exact hp
  have hl : vs.length < 64 := by have := hv.length_eq; simp at this; omega
  refine wpAny_bind (wpAny_newList ?_ (by rw [sizeLine_eq]; omega))
  show wpAny _ _ _ _ _ { s with heap := h1.push (seqObj "list" vs.toArray 0), drawn := d, toks := tk }
  show wpAny _ _ (holding [Value.ref h1.objs.size] _ >>= _) _ _ _
  have e1 : (h1.push (seqObj "list" vs.toArray 0)).get? h1.objs.size = some (seqObj "list" vs.toArray 0) := Heap.get?_push_size _ rfl
  refine wpAny_bind (wpAny_holding (wpAny_call_entry slot_list_sort ⟨_, e1, rfl⟩ entry_list_sort (list_sort_tree e1 hI hl fun out ns h2 h3 _ => ⟨_, rfl, ?_⟩) (args_list_sort _)))
  obtain ⟨n, e2⟩ := sortedHeap_at (out := out) e1
  refine wpAny_pure ⟨_, rfl, q _ tk d h1.objs.size out ns n h2 (h3.trans hk) le e2 fun b o e => ?_⟩
  have lt := Heap.lt_size (kp b o e)
  rw [sortedHeap_old (Nat.ne_of_lt lt) (by rw [Heap.size_push]; exact Nat.lt_succ_of_lt lt)]
  exact Heap.get?_push_of_some _ (kp b o e)
end
end ZT
set_option linter.all false
set_option maxRecDepth 100000
set_option maxHeartbeats 4000000
namespace ZS
open PySem PySem.Spec PyProof.Rows L2
theorem nodup_inj {α : Type} : ∀ {l : List α}, l.Nodup → ∀ {i j : Nat} {x : α}, l[i]? = some x → l[j]? = some x → i = j
  | [], _, i, _, _, a, _ => by simp at a
  | y :: l, h, i, j, x, a, b => by
    obtain ⟨h1, h2⟩ := List.nodup_cons.mp h
    cases i with
    | zero =>
      cases j with
      | zero => rfl
      | succ j => simp at a b; subst a; exact absurd (List.mem_of_getElem? b) h1
    | succ i =>
      cases j with
      | zero => simp at a b; subst b; exact absurd (List.mem_of_getElem? a) h1
      | succ j => exact congrArg (· + 1) (nodup_inj h2 (by simpa using a) (by simpa using b))
section
variable (K : PySem.W.Frag) (ρ : List Addr) (H : Hp)
noncomputable def SqF (a : Addr) (xs : List V) : Prop :=
  (∃ o, H a = some (.frz o (.lst xs))) ∨
    ∃ (o : Obj) (its : Array Value) (n : Nat), K.lookup a = some o ∧ o.cls = .type "list" ∧ o.dict = none ∧ o.data = .seq its n ∧ its.size ≤ sizeLine ∧ Vals xs its.toList ∧ o.slots = #[]
mutual
noncomputable def RelD : Z.D → V → Prop
  | .non, v => v = .non
  | .bl b, v => v = .bl b
  | .int i, v => v = .int i
  | .str s, v => v = .str ⟨s.toArray⟩ ∧ s.length ≤ Z.lim
  | .tup xs, v => ∃ a ys, v = .ref a ∧ SqT K H a ys ∧ RelDs xs ys
  | .rol xs, v => ∃ a ys, v = .ref a ∧ SqF K H a ys ∧ RelDs xs ys
  | .ref n, v => ∃ a, v = .ref a ∧ ρ[n]? = some a
noncomputable def RelDs : List Z.D → List V → Prop
  | [], ys => ys = []
  | x :: xs, ys => ∃ y r, ys = y :: r ∧ RelD x y ∧ RelDs xs r
end
noncomputable def kOf : Z.KK → Key
  | .inl i => .inl i
  | .inr s => .inr ⟨s.toArray⟩
noncomputable def RelAO : Z.AO → Addr → Prop
  | .lst xs, a => ∃ ys, H a = some (.lst ys) ∧ RelDs K ρ H xs ys
  | .dct kvs, a => ∃ kvs', H a = some (.dK kvs') ∧ kvs'.map (·.1) = kvs.map (fun p => kOf p.1) ∧ RelDs K ρ H (kvs.map (·.2)) (kvs'.map (·.2)) ∧ ∀ p ∈ kvs, ∀ s, p.1 = Sum.inr s → s.length ≤ Z.lim
  | .exc c, a => ∃ C oe, PySem.W.nsIn K mainGlobals ⟨c.toArray⟩ = some (some (.ref C)) ∧ H a = some (.frz oe (.own 0)) ∧ oe.cls = .ref C ∧ oe.dict = none ∧ PySem.W.notCls oe = true
  | .obj c fs, a => ∃ C dx fs', PySem.W.nsIn K mainGlobals ⟨c.toArray⟩ = some (some (.ref C)) ∧ H a = some (.ins C dx fs') ∧ fs'.map (·.1) = fs.map (fun p => (⟨p.1.toArray⟩ : Str)) ∧ RelDs K ρ H (fs.map (·.2)) (fs'.map (·.2))
end
structure Ext (K : PySem.W.Frag) (ρ : List Addr) (H : Hp) (ρ' : List Addr) (H' : Hp) : Prop where
  pre : ∀ (n : Nat) (a : Addr), ρ[n]? = some a → ρ'[n]? = some a
  tup : ∀ a xs, H a = some (.tup xs) → H' a = some (.tup xs)
  frz : ∀ a o u, H a = some (.frz o u) → H' a = some (.frz o u)
class R0 where
  rho : List Addr
  hp : Hp
variable [R0]
structure Rep (K : PySem.W.Frag) (ρ : List Addr) (h : Z.AH) (H : Hp) : Prop where
  len : ρ.length = h.length
  nd : ρ.Nodup
  ext : Ext K R0.rho R0.hp ρ H
  at_ : ∀ (n : Nat) (o : Z.AO), h[n]? = some o → ∃ a, ρ[n]? = some a ∧ RelAO K ρ H o a
noncomputable def RelL (K : PySem.W.Frag) (ρ : List Addr) (H : Hp) (σ : Z.Lo) (τ : L2.St) : Prop :=
  σ.length = τ.length ∧ ∀ (i : Nat) (d : Z.D), σ[i]? = some (some d) → ∃ v, τ[i]? = some (some v) ∧ RelD K ρ H d v
section
variable {K : PySem.W.Frag} {ρ ρ' ρ'' : List Addr} {H H' H'' : Hp} {h h' : Z.AH}
theorem Ext.refl : Ext K ρ H ρ H := ⟨fun _ _ e => e, fun _ _ e => e, fun _ _ _ e => e⟩
theorem Ext.trans (a : Ext K ρ H ρ' H') (b : Ext K ρ' H' ρ'' H'') : Ext K ρ H ρ'' H'' :=
  ⟨fun n x e => b.pre n x (a.pre n x e), fun x xs e => b.tup x xs (a.tup x xs e), fun x o u e => b.frz x o u (a.frz x o u e)⟩
theorem Ext.sqT (e : Ext K ρ H ρ' H') {a : Addr} {xs : List V} (q : SqT K H a xs) : SqT K H' a xs := by
  rcases q with (q | ⟨o, q⟩) | q
  · exact .inl (.inl (e.tup _ _ q))
  · exact .inl (.inr ⟨o, e.frz _ _ _ q⟩)
  · exact .inr q
theorem Ext.sqF (e : Ext K ρ H ρ' H') {a : Addr} {xs : List V} (q : SqF K H a xs) : SqF K H' a xs := by
  rcases q with ⟨o, q⟩ | q
  · exact .inl ⟨o, e.frz _ _ _ q⟩
  · exact .inr q
theorem SqF.sqL {a : Addr} {xs : List V} (q : SqF K H a xs) : SqL K H a xs := by
  rcases q with ⟨o, q⟩ | ⟨o, its, n, h1, h2, h3, h4, h5, h6, _⟩
  · exact .inl (.inr ⟨o, q⟩)
  · exact .inr ⟨o, its, n, h1, h2, h3, h4, h5, h6⟩
mutual
theorem RelD.mono (e : Ext K ρ H ρ' H') : ∀ (d : Z.D) (v : V), RelD K ρ H d v → RelD K ρ' H' d v
  | .non, _, r => by simp only [RelD] at r ⊢; exact r
  | .bl _, _, r => by simp only [RelD] at r ⊢; exact r
  | .int _, _, r => by simp only [RelD] at r ⊢; exact r
  | .str _, _, r => by simp only [RelD] at r ⊢; exact r
  | .tup xs, v, r => by
    simp only [RelD] at r ⊢
    obtain ⟨a, ys, e1, q, r⟩ := r
    exact ⟨a, ys, e1, e.sqT q, RelDs.mono e xs ys r⟩
  | .rol xs, v, r => by
    simp only [RelD] at r ⊢
    obtain ⟨a, ys, e1, q, r⟩ := r
    exact ⟨a, ys, e1, e.sqF q, RelDs.mono e xs ys r⟩
  | .ref n, v, r => by
    simp only [RelD] at r ⊢
    obtain ⟨a, e1, q⟩ := r
    exact ⟨a, e1, e.pre _ _ q⟩
theorem RelDs.mono (e : Ext K ρ H ρ' H') : ∀ (d : List Z.D) (v : List V), RelDs K ρ H d v → RelDs K ρ' H' d v
  | [], _, r => by simp only [RelDs] at r ⊢; exact r
  | x :: xs, v, r => by
    simp only [RelDs] at r ⊢
    obtain ⟨y, t, e1, q, r⟩ := r
    exact ⟨y, t, e1, RelD.mono e x y q, RelDs.mono e xs t r⟩
end
theorem RelDs.length : ∀ {xs : List Z.D} {ys : List V}, RelDs K ρ H xs ys → xs.length = ys.length
  | [], _, r => by simp only [RelDs] at r; subst r; rfl
  | x :: xs, _, r => by
    simp only [RelDs] at r
    obtain ⟨y, t, rfl, _, r⟩ := r
    simp [RelDs.length r]
theorem RelDs.get : ∀ {xs : List Z.D} {ys : List V} {i : Nat} {x : Z.D}, RelDs K ρ H xs ys → xs[i]? = some x → ∃ y, ys[i]? = some y ∧ RelD K ρ H x y
  | [], _, _, _, _, e => by simp at e
  | x :: xs, _, i, z, r, e => by
    simp only [RelDs] at r
    obtain ⟨y, t, rfl, q, r⟩ := r
    cases i with
    | zero => simp at e; subst e; exact ⟨y, by simp, q⟩
    | succ i => obtain ⟨w, e1, e2⟩ := RelDs.get (i := i) r (by simpa using e); exact ⟨w, by simpa using e1, e2⟩
theorem RelDs.append : ∀ {xs xs' : List Z.D} {ys ys' : List V}, RelDs K ρ H xs ys → RelDs K ρ H xs' ys' → RelDs K ρ H (xs ++ xs') (ys ++ ys')
  | [], _, _, _, r, r' => by simp only [RelDs] at r; subst r; exact r'
  | x :: xs, _, _, _, r, r' => by
    simp only [RelDs] at r
    obtain ⟨y, t, rfl, q, r⟩ := r
    show RelDs K ρ H (x :: (xs ++ _)) (y :: (t ++ _))
    simp only [RelDs]
    exact ⟨y, _, rfl, q, RelDs.append r r'⟩
theorem RelDs.one {x : Z.D} {y : V} (r : RelD K ρ H x y) : RelDs K ρ H [x] [y] := by
  simp only [RelDs]; exact ⟨y, [], rfl, r, rfl⟩
theorem RelDs.take : ∀ {xs : List Z.D} {ys : List V} (n : Nat), RelDs K ρ H xs ys → RelDs K ρ H (xs.take n) (ys.take n)
  | [], _, n, r => by simp only [RelDs] at r; subst r; simp [RelDs]
  | x :: xs, _, 0, r => by simp [RelDs]
  | x :: xs, _, n + 1, r => by
    simp only [RelDs] at r
    obtain ⟨y, t, rfl, q, r⟩ := r
    simp only [List.take_succ_cons, RelDs]
    exact ⟨y, _, rfl, q, RelDs.take n r⟩
theorem RelDs.drop : ∀ {xs : List Z.D} {ys : List V} (n : Nat), RelDs K ρ H xs ys → RelDs K ρ H (xs.drop n) (ys.drop n)
  | [], _, n, r => by simp only [RelDs] at r; subst r; simp [RelDs]
  | x :: xs, _, 0, r => r
  | x :: xs, _, n + 1, r => by
    simp only [RelDs] at r
    obtain ⟨y, t, rfl, q, r⟩ := r
    simpa using RelDs.drop n r
theorem RelAO.mono (e : Ext K ρ H ρ' H') {o : Z.AO} {a : Addr} (hs : H' a = H a) (r : RelAO K ρ H o a) : RelAO K ρ' H' o a := by
  cases o with
  | lst xs =>
    obtain ⟨ys, q, r⟩ := r
    exact ⟨ys, hs.trans q, RelDs.mono e _ _ r⟩
  | dct kvs =>
    obtain ⟨ys, q, q2, r, q3⟩ := r
    exact ⟨ys, hs.trans q, q2, RelDs.mono e _ _ r, q3⟩
  | obj c fs =>
    obtain ⟨C, dx, fs', hc, q, q2, r⟩ := r
    exact ⟨C, dx, fs', hc, hs.trans q, q2, RelDs.mono e _ _ r⟩
  | exc c =>
    obtain ⟨C, oe, hc, q, q2⟩ := r
    exact ⟨C, oe, hc, hs.trans q, q2⟩
theorem RelAO.some {o : Z.AO} {a : Addr} (r : RelAO K ρ H o a) : ∃ u, H a = some u := by
  cases o with
  | lst xs => obtain ⟨ys, q, _⟩ := r; exact ⟨_, q⟩
  | dct kvs => obtain ⟨ys, q, _⟩ := r; exact ⟨_, q⟩
  | obj c fs => obtain ⟨C, dx, fs', hc, q, _⟩ := r; exact ⟨_, q⟩
  | exc c => obtain ⟨C, oe, hc, q, _⟩ := r; exact ⟨_, q⟩
theorem Rep.tracked (R : Rep K ρ h H) {n : Nat} {a : Addr} (e : ρ[n]? = some a) : ∃ u, H a = some u := by
  have hn : n < h.length := by rw [← R.len]; exact (List.getElem?_eq_some_iff.mp e).1
  obtain ⟨b, e1, r⟩ := R.at_ n h[n] (by simp [hn])
  rw [e] at e1; cases e1
  exact r.some
theorem Ext.fresh {p : Addr} {o : HO} (hp : H p = none) : Ext K ρ H ρ (upd H p o) :=
  ⟨fun _ _ e => e, fun a xs e => by rw [upd_ne (ne_of_none e hp)]; exact e, fun a ob u e => by rw [upd_ne (ne_of_none e hp)]; exact e⟩
theorem Ext.alloc {p : Addr} {o : HO} (hp : H p = none) : Ext K ρ H (ρ ++ [p]) (upd H p o) :=
  ⟨fun n a e => by rw [List.getElem?_append_left (List.getElem?_eq_some_iff.mp e).1]; exact e, fun a xs e => by rw [upd_ne (ne_of_none e hp)]; exact e, fun a ob u e => by rw [upd_ne (ne_of_none e hp)]; exact e⟩
theorem Rep.fresh (R : Rep K ρ h H) {p : Addr} {o : HO} (hp : H p = none) : Rep K ρ h (upd H p o) :=
  ⟨R.len, R.nd, R.ext.trans (Ext.fresh hp), fun n ob e => by
    obtain ⟨a, e1, r⟩ := R.at_ n ob e
    obtain ⟨u, hu⟩ := r.some
    exact ⟨a, e1, RelAO.mono (Ext.fresh hp) (upd_ne (ne_of_none hu hp)) r⟩⟩
theorem Rep.alloc (R : Rep K ρ h H) {p : Addr} {o : HO} {ob : Z.AO} (hp : H p = none) (r : RelAO K (ρ ++ [p]) (upd H p o) ob p) : Rep K (ρ ++ [p]) (h ++ [ob]) (upd H p o) := by
  refine ⟨by simp [R.len], ?_, R.ext.trans (Ext.alloc hp), fun n ob' e => ?_⟩
  · refine List.nodup_append.mpr ⟨R.nd, by simp, fun a ha b hb => ?_⟩
    obtain ⟨n, hn, e⟩ := List.getElem_of_mem ha
    obtain ⟨u, hu⟩ := R.tracked (n := n) (a := a) (by rw [List.getElem?_eq_getElem hn, e])
    rw [List.mem_singleton] at hb
    subst hb
    exact ne_of_none hu hp
  · by_cases hn : n < h.length
    · rw [List.getElem?_append_left hn] at e
      obtain ⟨a, e1, r1⟩ := R.at_ n ob' e
      obtain ⟨u, hu⟩ := r1.some
      exact ⟨a, (Ext.alloc (K := K) (o := o) hp).pre _ _ e1, RelAO.mono (Ext.alloc hp) (upd_ne (ne_of_none hu hp)) r1⟩
    · have hl : n = h.length := by
        have := (List.getElem?_eq_some_iff.mp e).1
        simp at this; omega
      subst hl
      rw [List.getElem?_append_right (Nat.le_refl _)] at e
      simp at e
      subst e
      exact ⟨p, by rw [← R.len, List.getElem?_append_right (Nat.le_refl _)]; simp, r⟩
theorem Ext.write {a : Addr} {o u : HO} (hu : H a = some u) (h1 : ∀ xs, u ≠ .tup xs) (h2 : ∀ ob w, u ≠ .frz ob w) : Ext K ρ H ρ (upd H a o) :=
  ⟨fun _ _ e => e, fun b xs e => by rw [upd_ne (ne_of e hu fun z => h1 xs z.symm)]; exact e, fun b ob w e => by rw [upd_ne (ne_of e hu fun z => h2 ob w z.symm)]; exact e⟩
theorem Rep.write (R : Rep K ρ h H) {n : Nat} {a : Addr} {o u : HO} {ob : Z.AO} (hn : ρ[n]? = some a) (hu : H a = some u) (h1 : ∀ xs, u ≠ .tup xs) (h2 : ∀ ob w, u ≠ .frz ob w)
    (r : RelAO K ρ (upd H a o) ob a) : Rep K ρ (h.set n ob) (upd H a o) := by
  refine ⟨by simp [R.len], R.nd, R.ext.trans (Ext.write hu h1 h2), fun m ob' e => ?_⟩
  by_cases hm : m = n
  · subst hm
    rw [List.getElem?_set_self (by rw [← R.len]; exact (List.getElem?_eq_some_iff.mp hn).1)] at e
    cases e
    exact ⟨a, hn, r⟩
  · rw [List.getElem?_set_ne (Ne.symm hm)] at e
    obtain ⟨b, e1, r1⟩ := R.at_ m ob' e
    refine ⟨b, e1, RelAO.mono (Ext.write hu h1 h2) (upd_ne fun z => hm ?_) r1⟩
    subst z
    exact nodup_inj R.nd e1 hn
theorem RelL.mono (e : Ext K ρ H ρ' H') {σ : Z.Lo} {τ : L2.St} (r : RelL K ρ H σ τ) : RelL K ρ' H' σ τ :=
  ⟨r.1, fun i d q => let ⟨v, q1, q2⟩ := r.2 i d q; ⟨v, q1, RelD.mono e d v q2⟩⟩
theorem RelL.set {σ : Z.Lo} {τ : L2.St} {i : Nat} {d : Z.D} {v : V} (r : RelL K ρ H σ τ) (q : RelD K ρ H d v) : RelL K ρ H (σ.set i (some d)) (τ.set i (some v)) := by
  refine ⟨by simp [r.1], fun j e hj => ?_⟩
  by_cases hij : i = j
  · subst hij
    have hl : i < σ.length := by have := (List.getElem?_eq_some_iff.mp hj).1; simpa using this
    rw [List.getElem?_set_self hl] at hj
    cases hj
    exact ⟨v, by rw [List.getElem?_set_self (by rw [← r.1]; exact hl)], q⟩
  · rw [List.getElem?_set_ne hij] at hj
    rw [List.getElem?_set_ne hij]
    exact r.2 j e hj
end
end ZS
set_option linter.all false
set_option maxRecDepth 100000
set_option maxHeartbeats 4000000
namespace ZS
open PySem PySem.Spec PyProof.Rows L2
variable [R0]
noncomputable def upE (K : PySem.W.Frag) (w : Z.Lo → Z.AH → Z.PV → Prop) : TE := fun σ H Q => ∃ ρ h τ Q', Rep K ρ h H ∧ RelL K ρ H τ σ ∧ w τ h Q' ∧
  ∀ d h' ρ' H' v, Ext K ρ H ρ' H' → Rep K ρ' h' H' → RelD K ρ' H' d v → Q' d h' → Q v H'
noncomputable def upEs (K : PySem.W.Frag) (w : Z.Lo → Z.AH → (List Z.D → Z.AH → Prop) → Prop) : TA := fun σ H Q => ∃ ρ h τ Q', Rep K ρ h H ∧ RelL K ρ H τ σ ∧ w τ h Q' ∧
  ∀ ds h' ρ' H' vs, Ext K ρ H ρ' H' → Rep K ρ' h' H' → RelDs K ρ' H' ds vs → Q' ds h' → Q vs H'
noncomputable def upT (K : PySem.W.Frag) (w : Z.Lo → Z.AH → (Bool → Z.AH → Prop) → Prop) : TT := fun σ H Q => ∃ ρ h τ Q', Rep K ρ h H ∧ RelL K ρ H τ σ ∧ w τ h Q' ∧
  ∀ c h' ρ' H', Ext K ρ H ρ' H' → Rep K ρ' h' H' → Q' c h' → Q c H'
structure EnOk (K : PySem.W.Frag) (ρ : List Addr) (H : Hp) (N : Z.En) (D : Ends) : Prop where
  nx : ∀ τ h' ρ' H' σ, Ext K ρ H ρ' H' → Rep K ρ' h' H' → RelL K ρ' H' τ σ → N.nx τ h' → D.nx σ H'
  rt : ∀ d h' ρ' H' v, Ext K ρ H ρ' H' → Rep K ρ' h' H' → RelD K ρ' H' d v → N.rt d h' → D.rt v H'
  bk : ∀ τ h' ρ' H' σ, Ext K ρ H ρ' H' → Rep K ρ' h' H' → RelL K ρ' H' τ σ → N.bk τ h' → D.bk σ H'
  ct : ∀ τ h' ρ' H' σ, Ext K ρ H ρ' H' → Rep K ρ' h' H' → RelL K ρ' H' τ σ → N.ct τ h' → D.ct σ H'
theorem EnOk.mono {K : PySem.W.Frag} {ρ ρ1 : List Addr} {H H1 : Hp} {N : Z.En} {D : Ends} (k : EnOk K ρ H N D) (e : Ext K ρ H ρ1 H1) : EnOk K ρ1 H1 N D :=
  ⟨fun τ h' ρ' H' σ e' => k.nx τ h' ρ' H' σ (e.trans e'), fun d h' ρ' H' v e' => k.rt d h' ρ' H' v (e.trans e'), fun τ h' ρ' H' σ e' => k.bk τ h' ρ' H' σ (e.trans e'), fun τ h' ρ' H' σ e' => k.ct τ h' ρ' H' σ (e.trans e')⟩
noncomputable def upS (K : PySem.W.Frag) (w : Z.En → Z.Lo → Z.AH → Prop) : TS := fun D σ H => ∃ ρ h τ N, Rep K ρ h H ∧ RelL K ρ H τ σ ∧ w N τ h ∧ EnOk K ρ H N D
noncomputable def rP (K : PySem.W.Frag) (sub : Nat → Nat → Bool) (p : Z.Prim) (vs : List V) (H : Hp) (Q : VK) : Prop := ∃ ρ h ds d h', Rep K ρ h H ∧ RelDs K ρ H ds vs ∧ Z.prim sub p ds h = some (d, h') ∧
  ∀ ρ' H' v, Ext K ρ H ρ' H' → Rep K ρ' h' H' → RelD K ρ' H' d v → Q v H'
theorem PEw {X : Cx} {e : Expr} {t t' : TE} (h : PE X e t) (w : ∀ σ H Q, t' σ H Q → t σ H Q) : PE X e t' := fun pins s σ H Q I q => h pins s σ H Q I (w _ _ _ q)
theorem PTw {X : Cx} {e : Expr} {t t' : TT} (h : PT X e t) (w : ∀ σ H Q, t' σ H Q → t σ H Q) : PT X e t' := fun pins s σ H Q I q => h pins s σ H Q I (w _ _ _ q)
theorem PAw {X : Cx} {e : List Expr} {t t' : TA} (h : PA X e t) (w : ∀ σ H Q, t' σ H Q → t σ H Q) : PA X e t' := fun pos pins s σ H Q I q => h pos pins s σ H Q I (w _ _ _ q)
theorem PSw {X : Cx} {e : Stmt} {t t' : TS} (h : PS X e t) (w : ∀ D σ H, t' D σ H → t D σ H) : PS X e t' := fun pins s σ H D I q => h pins s σ H D I (w _ _ _ q)
theorem PSsw {X : Cx} {e : List Stmt} {t t' : TS} (h : PSs X e t) (w : ∀ D σ H, t' D σ H → t D σ H) : PSs X e t' := fun pins s σ H D I q => h pins s σ H D I (w _ _ _ q)
theorem OpRw {X : Cx} {f : Value → Value → Sem Value} {r r' : R2} (h : OpR X f r) (w : ∀ x y H Q, r' x y H Q → r x y H Q) : OpR X f r' := fun pins s σ H x y v u Q I rx ry q => h pins s σ H x y v u Q I rx ry (w _ _ _ _ q)
theorem CallRw {X : Cx} {f : Value} {r r' : List V → Hp → VK → Prop} (h : CallR X f r) (w : ∀ xs H Q, r' xs H Q → r xs H Q) : CallR X f r' := fun pins s σ H x v Q I rx q => h pins s σ H x v Q I rx (w _ _ _ q)
theorem MtRw {X : Cx} {id : String} {r r' : V → List V → Hp → VK → Prop} (h : MtR X id r) (w : ∀ x xs H Q, r' x xs H Q → r x xs H Q) : MtR X id r' := fun pins s σ H x xs v us Q I rx ry q => h pins s σ H x xs v us Q I rx ry (w _ _ _ _ q)
theorem SlRw {X : Cx} {r r' : V → Option Int → Option Int → Hp → VK → Prop} (h : SlR X r) (w : ∀ x lo hi H Q, r' x lo hi H Q → r x lo hi H Q) : SlR X r' := by
  unfold SlR at h ⊢
  intros
  apply h <;> first | assumption | (apply w; assumption)
section
variable {X : Cx} {sub : Nat → Nat → Bool} {Γ : Z.Gam} {E : Z.PX}
noncomputable abbrev LE (X : Cx) (sub : Nat → Nat → Bool) (Γ : Z.Gam) (E : Z.PX) (e : Expr) (i : Z.Ex) : Prop := PE X e (upE X.K (Z.wpE sub Γ E i))
noncomputable abbrev LT (X : Cx) (sub : Nat → Nat → Bool) (Γ : Z.Gam) (E : Z.PX) (e : Expr) (i : Z.Tx) : Prop := PT X e (upT X.K (Z.wpT sub Γ E i))
noncomputable abbrev LA (X : Cx) (sub : Nat → Nat → Bool) (Γ : Z.Gam) (E : Z.PX) (e : List Expr) (i : Z.Exs) : Prop := PA X e (upEs X.K (Z.wpEs sub Γ E i))
noncomputable abbrev LS (X : Cx) (sub : Nat → Nat → Bool) (Γ : Z.Gam) (E : Z.PX) (e : Stmt) (i : Z.Sm) : Prop := PS X e (upS X.K (Z.wpS sub Γ E i))
noncomputable abbrev LSs (X : Cx) (sub : Nat → Nat → Bool) (Γ : Z.Gam) (E : Z.PX) (e : List Stmt) (i : Z.Sms) : Prop := PSs X e (upS X.K (Z.wpSs sub Γ E i))
theorem rel2 {K : PySem.W.Frag} {ρ : List Addr} {H : Hp} {a b : Z.D} {x y : V} (r1 : RelD K ρ H a x) (r2 : RelD K ρ H b y) : RelDs K ρ H [a, b] [x, y] := by
  simp only [RelDs]; exact ⟨x, _, rfl, r1, y, _, rfl, r2, rfl⟩
theorem le_var {i : Nat} {x : Str} {pos : Pos} (hN : X.N[i]? = some x) (hv : Vis X.env.scope x) (hd : (x == ("__debug__" : Str)) = false) (hcd : (x == ("__classdict__" : Str)) = false) : LE X sub Γ E (.Name x pos) (.var i) := by
  refine PEw (pe_var hN hv hd hcd) ?_
  rintro σ H Q ⟨ρ, h, τ, Q', R, L, w, k⟩
  simp only [Z.wpE] at w
  cases q : τ[i]? with
  | none => rw [q] at w; exact w.elim
  | some o =>
    cases o with
    | none => rw [q] at w; exact w.elim
    | some d =>
      rw [q] at w
      obtain ⟨v, e, r⟩ := L.2 i d q
      exact ⟨v, e, k d h ρ H v .refl R r w⟩
theorem le_lit {e : Expr} {d : Z.D} {v : V} (he : PE X e (tC v)) (r : ∀ ρ H, RelD X.K ρ H d v) : LE X sub Γ E e (.lit d) := by
  refine PEw he ?_
  rintro σ H Q ⟨ρ, h, τ, Q', R, L, w, k⟩
  exact k d h ρ H v .refl R (r ρ H) w
theorem le_bin {a b : Expr} {a' b' : Z.Ex} {op : Operator} {p : Z.Prim} {pos : Pos} (ho : OpR X (binaryOp op) (fun x y => rP X.K sub p [x, y])) (ha : LE X sub Γ E a a') (hb : LE X sub Γ E b b') :
    LE X sub Γ E (.BinOp a op b pos) (.prim p (.cons a' (.cons b' .nil))) := by
  refine PEw (pe_op ho ha hb) ?_
  rintro σ H Q ⟨ρ, h, τ, Q', R, L, w, k⟩
  simp only [Z.wpE, Z.wpEs] at w
  refine ⟨ρ, h, τ, _, R, L, w, fun d1 h1 ρ1 H1 x e1 R1 r1 w1 => ⟨ρ1, h1, τ, _, R1, L.mono e1, w1, fun d2 h2 ρ2 H2 y e2 R2 r2 w2 => ?_⟩⟩
  cases q : Z.prim sub p [d1, d2] h2 with
  | none => rw [q] at w2; exact w2.elim
  | some z =>
    rw [q] at w2
    exact ⟨ρ2, h2, [d1, d2], z.1, z.2, R2, rel2 (RelD.mono e2 _ _ r1) r2, q, fun ρ' H' v e' R' r' => k _ _ ρ' H' v (e1.trans (e2.trans e')) R' r' w2⟩
theorem le_cmp {a b : Expr} {a' b' : Z.Ex} {op : CmpOp} {p : Z.Prim} {pos : Pos} (ho : OpR X (compareOp op) (fun x y => rP X.K sub p [x, y])) (ha : LE X sub Γ E a a') (hb : LE X sub Γ E b b') (hm : behindInMarks op b = false) :
    LE X sub Γ E (.Compare a [op] [b] pos) (.prim p (.cons a' (.cons b' .nil))) := by
  refine PEw (pe_cmpR ho ha hb hm) ?_
  rintro σ H Q ⟨ρ, h, τ, Q', R, L, w, k⟩
  simp only [Z.wpE, Z.wpEs] at w
  refine ⟨ρ, h, τ, _, R, L, w, fun d1 h1 ρ1 H1 x e1 R1 r1 w1 => ⟨ρ1, h1, τ, _, R1, L.mono e1, w1, fun d2 h2 ρ2 H2 y e2 R2 r2 w2 => ?_⟩⟩
  cases q : Z.prim sub p [d1, d2] h2 with
  | none => rw [q] at w2; exact w2.elim
  | some z =>
    rw [q] at w2
    exact ⟨ρ2, h2, [d1, d2], z.1, z.2, R2, rel2 (RelD.mono e2 _ _ r1) r2, q, fun ρ' H' v e' R' r' => k _ _ ρ' H' v (e1.trans (e2.trans e')) R' r' w2⟩
theorem le_and {a b : Expr} {rest : List Expr} {a' b' : Z.Ex} {pos : Pos} (ha : LE X sub Γ E a a') (hb : LE X sub Γ E (.BoolOp .And (b :: rest) pos) b') : LE X sub Γ E (.BoolOp .And (a :: b :: rest) pos) (.andV a' b') := by
  refine PEw (pe_and ha hb) ?_
  rintro σ H Q ⟨ρ, h, τ, Q', R, L, w, k⟩
  simp only [Z.wpE] at w
  refine ⟨ρ, h, τ, _, R, L, w, fun d1 h1 ρ1 H1 x e1 R1 r1 w1 => ?_⟩
  cases d1 with
  | bl c =>
    simp only [RelD] at r1
    cases c with
    | true => exact ⟨true, r1, by rw [if_pos rfl]; exact ⟨ρ1, h1, τ, _, R1, L.mono e1, w1, fun d h' ρ' H' v e' => k d h' ρ' H' v (e1.trans e')⟩⟩
    | false => exact ⟨false, r1, by rw [if_neg (by decide)]; exact k _ h1 ρ1 H1 _ e1 R1 (by simp only [RelD]) w1⟩
  | _ => exact w1.elim
theorem le_one {op : BoolOp} {a : Expr} {a' : Z.Ex} {pos : Pos} (ha : LE X sub Γ E a a') : LE X sub Γ E (.BoolOp op [a] pos) a' := pe_one ha
theorem la_nil : LA X sub Γ E [] .nil := by
  refine PAw pa_nil ?_
  rintro σ H Q ⟨ρ, h, τ, Q', R, L, w, k⟩
  simp only [Z.wpEs] at w
  exact k [] h ρ H [] .refl R (by simp only [RelDs]) w
theorem la_cons {e : Expr} {es : List Expr} {e' : Z.Ex} {es' : Z.Exs} (he : LE X sub Γ E e e') (hes : LA X sub Γ E es es') (hs : starEach (e :: es) X.env = (false, eval e X.env) :: starEach es X.env) : LA X sub Γ E (e :: es) (.cons e' es') := by
  refine PAw (pa_cons he hes hs) ?_
  rintro σ H Q ⟨ρ, h, τ, Q', R, L, w, k⟩
  simp only [Z.wpEs] at w
  refine ⟨ρ, h, τ, _, R, L, w, fun d1 h1 ρ1 H1 x e1 R1 r1 w1 => ⟨ρ1, h1, τ, _, R1, L.mono e1, w1, fun ds h2 ρ2 H2 xs e2 R2 r2 w2 => ?_⟩⟩
  exact k _ h2 ρ2 H2 _ (e1.trans e2) R2 (by simp only [RelDs]; exact ⟨x, xs, rfl, RelD.mono e2 _ _ r1, r2⟩) w2
theorem limE : Z.lim = sizeLine := by rw [sizeLine_eq]; rfl
theorem pr_mkt {sub : Nat → Nat → Bool} : Z.prim sub .mktup = Z.pMkt := rfl
theorem pr_mkl {sub : Nat → Nat → Bool} : Z.prim sub .mklst = Z.newL := rfl
theorem le_tup {es : List Expr} {es' : Z.Exs} {k : Nat} {pos : Pos} (h : LA X sub Γ E es es') : LE X sub Γ E (.Tuple es k pos) (.prim .mktup es') := by
  refine PEw (pe_tup h) ?_
  rintro σ H Q ⟨ρ, h, τ, Q', R, L, w, k⟩
  simp only [Z.wpE] at w
  refine ⟨ρ, h, τ, _, R, L, w, fun ds h1 ρ1 H1 xs e1 R1 r1 w1 => ?_⟩
  simp only [pr_mkt, Z.pMkt] at w1
  by_cases hl : ds.length ≤ Z.lim
  · rw [if_pos hl] at w1
    refine ⟨by rw [← r1.length, ← limE]; exact hl, fun p hp => ?_⟩
    have e2 : Ext X.K ρ1 H1 ρ1 (upd H1 p (.tup xs)) := Ext.fresh hp
    exact k _ h1 ρ1 _ _ (e1.trans e2) (R1.fresh hp) (by simp only [RelD]; exact ⟨p, xs, rfl, .of upd_same, RelDs.mono e2 _ _ r1⟩) w1
  · rw [if_neg hl] at w1; exact w1.elim
theorem new_list {K : PySem.W.Frag} {ρ : List Addr} {h : Z.AH} {H : Hp} {ds : List Z.D} {vs : List V} {p : Addr} (R : Rep K ρ h H) (r : RelDs K ρ H ds vs) (hp : H p = none) :
    Ext K ρ H (ρ ++ [p]) (upd H p (.lst vs)) ∧ Rep K (ρ ++ [p]) (h ++ [.lst ds]) (upd H p (.lst vs)) ∧ RelD K (ρ ++ [p]) (upd H p (.lst vs)) (.ref h.length) (.ref p) := by
  have e : Ext K ρ H (ρ ++ [p]) (upd H p (.lst vs)) := Ext.alloc hp
  exact ⟨e, R.alloc hp ⟨vs, upd_same, RelDs.mono e _ _ r⟩, by simp only [RelD]; exact ⟨p, rfl, by rw [← R.len, List.getElem?_append_right (Nat.le_refl _)]; simp⟩⟩
theorem le_list {es : List Expr} {es' : Z.Exs} {pos : Pos} (h : LA X sub Γ E es es') : LE X sub Γ E (.List es pos) (.prim .mklst es') := by
  refine PEw (pe_lst h) ?_
  rintro σ H Q ⟨ρ, h, τ, Q', R, L, w, k⟩
  simp only [Z.wpE] at w
  refine ⟨ρ, h, τ, _, R, L, w, fun ds h1 ρ1 H1 xs e1 R1 r1 w1 => ?_⟩
  simp only [pr_mkl, Z.newL] at w1
  by_cases hl : ds.length ≤ Z.lim
  · rw [if_pos hl] at w1
    refine ⟨by rw [← r1.length, ← limE]; exact hl, fun p hp => ?_⟩
    obtain ⟨e2, R2, r2⟩ := new_list R1 r1 hp
    exact k _ _ _ _ _ (e1.trans e2) R2 r2 w1
  · rw [if_neg hl] at w1; exact w1.elim
theorem le_ix {a b : Expr} {a' b' : Z.Ex} {p : Z.Prim} {pos : Pos} (ho : IxR X (fun x y => rP X.K sub p [x, y])) (ha : LE X sub Γ E a a') (hb : LE X sub Γ E b b') (hs : PlainIx b) :
    LE X sub Γ E (.Subscript a b pos) (.prim p (.cons a' (.cons b' .nil))) := by
  refine PEw (pe_ix ho ha hb hs) ?_
  rintro σ H Q ⟨ρ, h, τ, Q', R, L, w, k⟩
  simp only [Z.wpE, Z.wpEs] at w
  refine ⟨ρ, h, τ, _, R, L, w, fun d1 h1 ρ1 H1 x e1 R1 r1 w1 => ⟨ρ1, h1, τ, _, R1, L.mono e1, w1, fun d2 h2 ρ2 H2 y e2 R2 r2 w2 => ?_⟩⟩
  cases q : Z.prim sub p [d1, d2] h2 with
  | none => rw [q] at w2; exact w2.elim
  | some z =>
    rw [q] at w2
    exact ⟨ρ2, h2, [d1, d2], z.1, z.2, R2, rel2 (RelD.mono e2 _ _ r1) r2, q, fun ρ' H' v e' R' r' => k _ _ ρ' H' v (e1.trans (e2.trans e')) R' r' w2⟩
theorem le_callB {x : Str} {id : String} {e : Expr} {es : List Expr} {es' : Z.Exs} {p : Z.Prim} {q pos : Pos} (hc : CallR X (.builtin id) (rP X.K sub p)) (hg : Gl X x) (hm : X.mg x = none) (hv : bootBuiltins x = some (.builtin id))
    (ha : LA X sub Γ E (e :: es) es') (hn : x ≠ "__name__") (hdb : (x == ("__debug__" : Str)) = false) (he : starEach (e :: es) X.env = (false, eval e X.env) :: starEach es X.env) (hpl : (backTo pos (starEach es X.env)).any (·.1) = false) :
    LE X sub Γ E (.Call (.Name x q) (e :: es) [] pos) (.prim p es') := by
  refine PEw (pe_callB hc hg hm hv ha hn hdb he hpl) ?_
  rintro σ H Q ⟨ρ, h, τ, Q', R, L, w, k⟩
  simp only [Z.wpE] at w
  refine ⟨ρ, h, τ, _, R, L, w, fun ds h1 ρ1 H1 xs e1 R1 r1 w1 => ?_⟩
  cases q : Z.prim sub p ds h1 with
  | none => rw [q] at w1; exact w1.elim
  | some z =>
    rw [q] at w1
    exact ⟨ρ1, h1, ds, z.1, z.2, R1, r1, q, fun ρ' H' v e' R' r' => k _ _ ρ' H' v (e1.trans e') R' r' w1⟩
theorem le_callTy {x : Str} {id : String} {e : Expr} {es : List Expr} {es' : Z.Exs} {p : Z.Prim} {q pos : Pos} (hc : CallR X (.type id) (rP X.K sub p)) (hg : Gl X x) (hm : X.mg x = none) (hv : bootBuiltins x = some (.type id))
    (ha : LA X sub Γ E (e :: es) es') (hn : x ≠ "__name__") (hdb : (x == ("__debug__" : Str)) = false) (he : starEach (e :: es) X.env = (false, eval e X.env) :: starEach es X.env) (hpl : (backTo pos (starEach es X.env)).any (·.1) = false) :
    LE X sub Γ E (.Call (.Name x q) (e :: es) [] pos) (.prim p es') := by
  refine PEw (pe_callTy hc hg hm hv ha hn hdb he hpl) ?_
  rintro σ H Q ⟨ρ, h, τ, Q', R, L, w, k⟩
  simp only [Z.wpE] at w
  refine ⟨ρ, h, τ, _, R, L, w, fun ds h1 ρ1 H1 xs e1 R1 r1 w1 => ?_⟩
  cases q : Z.prim sub p ds h1 with
  | none => rw [q] at w1; exact w1.elim
  | some z =>
    rw [q] at w1
    exact ⟨ρ1, h1, ds, z.1, z.2, R1, r1, q, fun ρ' H' v e' R' r' => k _ _ ρ' H' v (e1.trans e') R' r' w1⟩
noncomputable def MKn : Z.MK → String
  | .list => "list" | .str => "str" | .dict => "dict" | .int => "int" | .tuple => "tuple"
theorem ty_of {K : PySem.W.Frag} {ρ : List Addr} {h : Z.AH} {H : Hp} {m : Z.MK} {d : Z.D} {v : V} (hm : m ≠ .dict) (hm2 : m ≠ .tuple) (R : Rep K ρ h H) (r : RelD K ρ H d v) (t : Z.tyB h m d = true) : tyV K (MKn m) v H := by
  cases m <;> cases d <;> simp only [Z.tyB] at t <;> try cases t
  · simp only [RelD] at r
    obtain ⟨a, ys, rfl, q, _⟩ := r
    exact .inl ⟨rfl, ys, q.sqL⟩
  · rename_i n
    simp only [RelD] at r
    obtain ⟨a, rfl, q⟩ := r
    cases e : h[n]? with
    | none => rw [e] at t; cases t
    | some o =>
      rw [e] at t
      cases o with
      | lst xs =>
        obtain ⟨b, e1, ys, e2, _⟩ := R.at_ n _ e
        rw [q] at e1; cases e1
        exact .inl ⟨rfl, ys, .of e2⟩
      | _ => cases t
  · simp only [RelD] at r
    obtain ⟨rfl, _⟩ := r
    rfl
  · exact absurd rfl hm
  · simp only [RelD] at r
    subst r
    rfl
  · exact absurd rfl hm2
theorem le_mth {o e : Expr} {es : List Expr} {o' : Z.Ex} {es' : Z.Exs} {m : Z.MK} {p : Z.Prim} {name : Str} {apos cpos : Pos} {id : String} (hmk : m ≠ .dict) (hmt : m ≠ .tuple) (pa : PlainAttrs (MKn m)) (slot : Slot (MKn m) name id) (hty : typeOf (.builtin id) = pure (.type "method_descriptor"))
    (hm : MtR X id (fun x xs => rP X.K sub p (x :: xs))) (ho : LE X sub Γ E o o') (ha : LA X sub Γ E (e :: es) es') (hbase : attributeBase o name X.env (eval o X.env) = eval o X.env)
    (hfew : ((backTo cpos (starEach (e :: es) X.env)).all (fun x => !x.1) && (backToKw cpos (keywordEach [] X.env)).all (fun x => x.1.isSome)
      && decide ((e :: es).length + ([] : List Keyword).length + (if ([] : List Keyword).isEmpty then 0 else 1) < 30)) = true)
    (hline : (apos.endLine == cpos.line) = true) (hs : starEach (e :: es) X.env = (false, eval e X.env) :: starEach es X.env) (hplain : (backTo cpos (starEach es X.env)).any (·.1) = false) :
    LE X sub Γ E (.Call (.Attribute o name apos) (e :: es) [] cpos) (.mth m p o' es') := by
  refine PEw (pe_bm pa slot hty hm ho ha hbase hfew hline hs hplain) ?_
  rintro σ H Q ⟨ρ, h, τ, Q', R, L, w, k⟩
  simp only [Z.wpE] at w
  refine ⟨ρ, h, τ, _, R, L, w, fun d1 h1 ρ1 H1 x e1 R1 r1 w1 => ⟨ty_of hmk hmt R1 r1 w1.1, ρ1, h1, τ, _, R1, L.mono e1, w1.2, fun ds h2 ρ2 H2 xs e2 R2 r2 w2 => ?_⟩⟩
  cases q : Z.prim sub p (d1 :: ds) h2 with
  | none => rw [q] at w2; exact w2.elim
  | some z =>
    rw [q] at w2
    exact ⟨ρ2, h2, d1 :: ds, z.1, z.2, R2, by simp only [RelDs]; exact ⟨x, xs, rfl, RelD.mono e2 _ _ r1, r2⟩, q, fun ρ' H' v e' R' r' => k _ _ ρ' H' v (e1.trans (e2.trans e')) R' r' w2⟩
theorem le_mth0 {o : Expr} {o' : Z.Ex} {m : Z.MK} {p : Z.Prim} {name : Str} {apos cpos : Pos} {id : String} (hmk : m ≠ .dict) (hmt : m ≠ .tuple) (pa : PlainAttrs (MKn m)) (slot : Slot (MKn m) name id) (hty : typeOf (.builtin id) = pure (.type "method_descriptor"))
    (hm : MtR X id (fun x xs => rP X.K sub p (x :: xs))) (ho : LE X sub Γ E o o') (hbase : attributeBase o name X.env (eval o X.env) = eval o X.env) (hline : (apos.endLine == cpos.line) = true) :
    LE X sub Γ E (.Call (.Attribute o name apos) [] [] cpos) (.mth m p o' .nil) := by
  refine PEw (pe_bm0 pa slot hty hm ho hbase hline) ?_
  rintro σ H Q ⟨ρ, h, τ, Q', R, L, w, k⟩
  simp only [Z.wpE, Z.wpEs] at w
  refine ⟨ρ, h, τ, _, R, L, w, fun d1 h1 ρ1 H1 x e1 R1 r1 w1 => ⟨ty_of hmk hmt R1 r1 w1.1, ?_⟩⟩
  obtain ⟨_, w2⟩ := w1
  cases q : Z.prim sub p [d1] h1 with
  | none => rw [q] at w2; exact w2.elim
  | some z =>
    rw [q] at w2
    exact ⟨ρ1, h1, [d1], z.1, z.2, R1, .one r1, q, fun ρ' H' v e' R' r' => k _ _ ρ' H' v (e1.trans e') R' r' w2⟩
theorem tru_of {K : PySem.W.Frag} {ρ : List Addr} {h : Z.AH} {H : Hp} {d : Z.D} {v : V} {c : Bool} (R : Rep K ρ h H) (r : RelD K ρ H d v) (t : Z.truthy h d = some c) : TruV K v H c := by
  cases d with
  | non => simp only [RelD] at r; subst r; simp only [Z.truthy] at t; cases t; rfl
  | bl b => simp only [RelD] at r; subst r; simp only [Z.truthy] at t; cases t; rfl
  | int i => simp only [RelD] at r; subst r; simp only [Z.truthy] at t; cases t; rfl
  | str s =>
    simp only [RelD] at r
    obtain ⟨rfl, hl⟩ := r
    simp only [Z.truthy] at t
    cases t
    refine ⟨by rw [← limE]; exact hl, ?_⟩
    show (!s.isEmpty) = (((⟨s.toArray⟩ : Str).length : Int) != 0)
    cases s with
    | nil => rfl
    | cons a b =>
      show true = _
      symm
      rw [bne_iff_ne]
      show ((a :: b).toArray.size : Int) ≠ 0
      simp
      omega
  | tup xs =>
    simp only [RelD] at r
    obtain ⟨a, ys, rfl, q, rs⟩ := r
    simp only [Z.truthy] at t
    cases t
    refine .inr (.inl ⟨ys, q, ?_⟩)
    have := rs.length
    cases xs <;> cases ys <;> simp at this ⊢
  | rol xs =>
    simp only [RelD] at r
    obtain ⟨a, ys, rfl, q, rs⟩ := r
    simp only [Z.truthy] at t
    cases t
    refine .inl ⟨ys, q.sqL, ?_⟩
    have := rs.length
    cases xs <;> cases ys <;> simp at this ⊢
  | ref n =>
    simp only [RelD] at r
    obtain ⟨a, rfl, q⟩ := r
    simp only [Z.truthy] at t
    cases e : h[n]? with
    | none => rw [e] at t; cases t
    | some o =>
      rw [e] at t
      obtain ⟨b, e1, ro⟩ := R.at_ n _ e
      rw [q] at e1; cases e1
      cases o with
      | lst xs =>
        obtain ⟨ys, e2, rs⟩ := ro
        cases t
        refine .inl ⟨ys, .of e2, ?_⟩
        have := rs.length
        cases xs <;> cases ys <;> simp at this ⊢
      | dct kvs =>
        obtain ⟨ys, e2, ek, rs, _⟩ := ro
        cases t
        refine .inr (.inr ⟨ys, e2, ?_⟩)
        have := rs.length
        rw [List.length_map, List.length_map] at this
        cases kvs <;> cases ys <;> simp at this ⊢
      | obj _ _ => cases t
      | exc _ => cases t
theorem lt_tru {a : Expr} {a' : Z.Ex} (ha : LE X sub Γ E a a') (he : ∀ whole, isTrue a X.env whole = (do let v ← whole; standAt a.pos; holding [v] (truthy v))) : LT X sub Γ E a (.tru a') := by
  refine PTw (pt_truth ha he) ?_
  rintro σ H Q ⟨ρ, h, τ, Q', R, L, w, k⟩
  simp only [Z.wpT] at w
  refine ⟨ρ, h, τ, _, R, L, w, fun d1 h1 ρ1 H1 x e1 R1 r1 w1 => ?_⟩
  cases q : Z.truthy h1 d1 with
  | none => rw [q] at w1; exact w1.elim
  | some c =>
    rw [q] at w1
    exact ⟨c, tru_of R1 r1 q, k c h1 ρ1 H1 e1 R1 w1⟩
theorem lt_cmp {a b : Expr} {a' b' : Z.Ex} {op : CmpOp} {p : Z.Prim} {pos : Pos} (hp : ∀ ds h d h', Z.prim sub p ds h = some (d, h') → ∃ c, d = .bl c) (ho : OpR X (compareOp op) (fun x y => rP X.K sub p [x, y])) (ha : LE X sub Γ E a a') (hb : LE X sub Γ E b b') (hm : behindInMarks op b = false) :
    LT X sub Γ E (.Compare a [op] [b] pos) (.tru (.prim p (.cons a' (.cons b' .nil)))) := by
  refine PTw (pt_cmpR ho ha hb hm) ?_
  rintro σ H Q ⟨ρ, h, τ, Q', R, L, w, k⟩
  simp only [Z.wpT, Z.wpE, Z.wpEs] at w
  refine ⟨ρ, h, τ, _, R, L, w, fun d1 h1 ρ1 H1 x e1 R1 r1 w1 => ⟨ρ1, h1, τ, _, R1, L.mono e1, w1, fun d2 h2 ρ2 H2 y e2 R2 r2 w2 => ?_⟩⟩
  cases q : Z.prim sub p [d1, d2] h2 with
  | none => rw [q] at w2; exact w2.elim
  | some z =>
    obtain ⟨z, h3⟩ := z
    obtain ⟨c, rfl⟩ := hp _ _ _ _ q
    rw [q] at w2
    refine ⟨ρ2, h2, [d1, d2], .bl c, h3, R2, rel2 (RelD.mono e2 _ _ r1) r2, q, fun ρ' H' v e' R' r' => ?_⟩
    simp only [RelD] at r'
    exact ⟨c, r', k _ h3 ρ' H' (e1.trans (e2.trans e')) R' w2⟩
theorem lt_not {a : Expr} {a' : Z.Tx} {pos : Pos} (ha : LT X sub Γ E a a') : LT X sub Γ E (.UnaryOp .Not a pos) (.not a') := by
  refine PTw (pt_not ha) ?_
  rintro σ H Q ⟨ρ, h, τ, Q', R, L, w, k⟩
  simp only [Z.wpT] at w
  exact ⟨ρ, h, τ, _, R, L, w, fun c h1 ρ1 H1 e1 R1 w1 => k _ h1 ρ1 H1 e1 R1 w1⟩
noncomputable abbrev LW (X : Cx) (sub : Nat → Nat → Bool) (Γ : Z.Gam) (E : Z.PX) (e : Expr) (i : Z.Tx) : Prop := PW X e (upT X.K (Z.wpT sub Γ E i))
theorem PWw {e : Expr} {t t' : TT} (h : PW X e t) (w : ∀ σ H Q, t' σ H Q → t σ H Q) : PW X e t' := fun wh pins s σ H Q I q => h wh pins s σ H Q I (w _ _ _ q)
theorem lw_and1 {a : Expr} {a' : Z.Tx} {pos : Pos} (ha : LT X sub Γ E a a') : LW X sub Γ E (.BoolOp .And [a] pos) a' := pw_and1 ha
theorem lw_or1 {a : Expr} {a' : Z.Tx} {pos : Pos} (ha : LT X sub Γ E a a') : LW X sub Γ E (.BoolOp .Or [a] pos) a' := pw_or1 ha
theorem lw_and {a b : Expr} {rest : List Expr} {a' b' : Z.Tx} {pos : Pos} (ha : LT X sub Γ E a a') (hb : LW X sub Γ E (.BoolOp .And (b :: rest) pos) b') : LW X sub Γ E (.BoolOp .And (a :: b :: rest) pos) (.and a' b') := by
  refine PWw (pw_and ha hb) ?_
  rintro σ H Q ⟨ρ, h, τ, Q', R, L, w, k⟩
  simp only [Z.wpT] at w
  refine ⟨ρ, h, τ, _, R, L, w, fun c h1 ρ1 H1 e1 R1 w1 => ?_⟩
  cases c with
  | true => rw [if_pos rfl] at w1 ⊢; exact ⟨ρ1, h1, τ, _, R1, L.mono e1, w1, fun d h' ρ' H' e' => k d h' ρ' H' (e1.trans e')⟩
  | false => rw [if_neg (by decide)] at w1 ⊢; exact k _ h1 ρ1 H1 e1 R1 w1
theorem lw_or {a b : Expr} {rest : List Expr} {a' b' : Z.Tx} {pos : Pos} (ha : LT X sub Γ E a a') (hb : LW X sub Γ E (.BoolOp .Or (b :: rest) pos) b') : LW X sub Γ E (.BoolOp .Or (a :: b :: rest) pos) (.or a' b') := by
  refine PWw (pw_or ha hb) ?_
  rintro σ H Q ⟨ρ, h, τ, Q', R, L, w, k⟩
  simp only [Z.wpT] at w
  refine ⟨ρ, h, τ, _, R, L, w, fun c h1 ρ1 H1 e1 R1 w1 => ?_⟩
  cases c with
  | true => rw [if_pos rfl] at w1 ⊢; exact k _ h1 ρ1 H1 e1 R1 w1
  | false => rw [if_neg (by decide)] at w1 ⊢; exact ⟨ρ1, h1, τ, _, R1, L.mono e1, w1, fun d h' ρ' H' e' => k d h' ρ' H' (e1.trans e')⟩
end
end ZS
set_option linter.all false
set_option maxRecDepth 100000
set_option maxHeartbeats 4000000
namespace ZS
open PySem PySem.Spec PyProof.Rows L2
variable [R0]
section
variable {X : Cx} {sub : Nat → Nat → Bool} {Γ : Z.Gam} {E : Z.PX}
theorem lss_nil : LSs X sub Γ E [] .nil := by
  refine PSsw pss_nil ?_
  rintro D σ H ⟨ρ, h, τ, N, R, L, w, k⟩
  simp only [Z.wpSs] at w
  exact k.nx τ h ρ H σ .refl R L w
theorem lss_cons {s : Stmt} {ss : List Stmt} {s' : Z.Sm} {ss' : Z.Sms} (h1 : LS X sub Γ E s s') (h2 : LSs X sub Γ E ss ss') : LSs X sub Γ E (s :: ss) (.cons s' ss') := by
  refine PSsw (pss_cons h1 h2) ?_
  rintro D σ H ⟨ρ, h, τ, N, R, L, w, k⟩
  simp only [Z.wpSs] at w
  refine ⟨ρ, h, τ, _, R, L, w, ⟨fun τ1 h1 ρ1 H1 σ1 e1 R1 L1 w1 => ⟨ρ1, h1, τ1, N, R1, L1, w1, k.mono e1⟩, k.rt, k.bk, k.ct⟩⟩
theorem ls_expr {e : Expr} {e' : Z.Ex} {pos : Pos} (he : LE X sub Γ E e e') (hs : swapsWith e none pos.line X.env = pure false) : LS X sub Γ E (.Expr e pos) (.expr e') := by
  refine PSw (ps_expr he hs) ?_
  rintro D σ H ⟨ρ, h, τ, N, R, L, w, k⟩
  simp only [Z.wpS] at w
  exact ⟨ρ, h, τ, _, R, L, w, fun d h1 ρ1 H1 v e1 R1 r1 w1 => k.nx τ h1 ρ1 H1 σ e1 R1 (L.mono e1) w1⟩
theorem ls_ret {e : Expr} {e' : Z.Ex} {pos : Pos} (he : LE X sub Γ E e e') : LS X sub Γ E (.Return (some e) pos) (.ret e') := by
  refine PSw (ps_ret he) ?_
  rintro D σ H ⟨ρ, h, τ, N, R, L, w, k⟩
  simp only [Z.wpS] at w
  exact ⟨ρ, h, τ, _, R, L, w, fun d h1 ρ1 H1 v e1 R1 r1 w1 => k.rt d h1 ρ1 H1 v e1 R1 r1 w1⟩
theorem ls_asg {i : Nat} {x : Str} {e : Expr} {e' : Z.Ex} {pos pos' : Pos} (hN : X.N.Nodup) (hi : X.N[i]? = some x) (hx : Loc X.env.scope x) (he : LE X sub Γ E e e') (hs : swapsWith e (some (.Name x pos')) pos.line X.env = pure false)
    (hf : X.fn x = true ∨ X.env.scope.names.lookup x = some .local) : LS X sub Γ E (.Assign [.Name x pos'] e pos) (.asg i e') := by
  refine PSw (ps_set hN hi hx he hs hf) ?_
  rintro D σ H ⟨ρ, h, τ, N, R, L, w, k⟩
  simp only [Z.wpS] at w
  exact ⟨ρ, h, τ, _, R, L, w, fun d h1 ρ1 H1 v e1 R1 r1 w1 => k.nx _ h1 ρ1 H1 _ e1 R1 ((L.mono e1).set r1) w1⟩
theorem ls_if {c : Expr} {a b : List Stmt} {c' : Z.Tx} {a' b' : Z.Sms} {pos : Pos} (hc : LT X sub Γ E c c') (ha : LSs X sub Γ E a a') (hb : LSs X sub Γ E b b') : LS X sub Γ E (.If c a b pos) (.ife c' a' b') := by
  refine PSw (ps_if hc ha hb) ?_
  rintro D σ H ⟨ρ, h, τ, N, R, L, w, k⟩
  simp only [Z.wpS] at w
  refine ⟨ρ, h, τ, _, R, L, w, fun c h1 ρ1 H1 e1 R1 w1 => ?_⟩
  cases c with
  | true => rw [if_pos rfl] at w1 ⊢; exact ⟨ρ1, h1, τ, N, R1, L.mono e1, w1, k.mono e1⟩
  | false => rw [if_neg (by decide)] at w1 ⊢; exact ⟨ρ1, h1, τ, N, R1, L.mono e1, w1, k.mono e1⟩
noncomputable def ItOk (K : PySem.W.Frag) (ρ0 : List Addr) (H0 : Hp) (J : Z.It) (J' : L2.It) : Prop := ∀ (i : Nat) (ρ : List Addr) (h : Z.AH) (H : Hp), Ext K ρ0 H0 ρ H → Rep K ρ h H →
  match J i h with
  | some (some d) => J'.go i H ∧ ∀ x H', J'.yld i H x H' → Ext K ρ H ρ H' ∧ Rep K ρ h H' ∧ RelD K ρ H' d x
  | some none => J'.stop i H
  | none => True
theorem it_same {K : PySem.W.Frag} {ρ : List Addr} {h : Z.AH} {H H' : Hp} {d : Z.D} {x : V} (R : Rep K ρ h H) (e : H' = H) (r : RelD K ρ H d x) : Ext K ρ H ρ H' ∧ Rep K ρ h H' ∧ RelD K ρ H' d x := by
  subst e; exact ⟨.refl, R, r⟩
noncomputable def upI (K : PySem.W.Frag) (kd : Z.IK) (w : Z.Lo → Z.AH → (List Z.D → Z.AH → Prop) → Prop) : TI := fun σ H R => ∃ ρ h τ Q', Rep K ρ h H ∧ RelL K ρ H τ σ ∧ w τ h Q' ∧
  ∀ ds h' ρ' H' vs, Ext K ρ H ρ' H' → Rep K ρ' h' H' → RelDs K ρ' H' ds vs → Q' ds h' → ∃ J, Z.iterOf kd ds h' = some J ∧ ∀ J', ItOk K ρ' H' J J' → R J' H'
noncomputable abbrev LI (X : Cx) (sub : Nat → Nat → Bool) (Γ : Z.Gam) (E : Z.PX) (tg iter : Expr) (kd : Z.IK) (es : Z.Exs) : Prop := PI X tg iter (upI X.K kd (Z.wpEs sub Γ E es))
theorem PIw {tg iter : Expr} {t t' : TI} (h : PI X tg iter t) (w : ∀ σ H R, t' σ H R → t σ H R) : PI X tg iter t' := fun pins s σ H R I q => h pins s σ H R I (w _ _ _ q)
theorem pi_seq {tg l : Expr} {tl : TE} (hl : PE X l tl) : PI X tg l (fun σ H R => tl σ H fun x H1 => ∃ a, x = .ref a ∧ (((∃ xs, SqL X.K H1 a xs) ∧ R (Itl X.K a) H1) ∨ ((∃ xs, SqT X.K H1 a xs) ∧ R (Itt X.K a) H1))) := by
  intro pins s σ H R I h
  refine thn (hl pins s σ H _ I h) fun v s1 ⟨x, H1, I1, r1, q1⟩ => ?_
  obtain ⟨a, e, ⟨⟨xs, hq⟩, q⟩ | ⟨⟨xs, hq⟩, q⟩⟩ := q1
  · subst e
    cases r1
    obtain ⟨its, rv, p, hz⟩ := I1.list hq
    refine wpAny_pyIter_list p.isList ?_
    refine ⟨s1.heap.objs.size, [s1.heap.objs.size], _, _, H1, rfl, I1.kept (t' := s1.toks) fun b o e => Heap.get?_push_of_some _ e, turn_list a _, ⟨_, Heap.get?_push_size _ rfl, rfl, rfl⟩, fun b hb => ?_, q⟩
    have e : b = s1.heap.objs.size := by simpa using hb
    subst e
    exact I1.fpOk (Nat.le_refl _) (I1.hok.fresh (Nat.le_refl _))
  · subst e
    cases r1
    obtain ⟨its, rv, p, hz⟩ := I1.tuple hq
    refine wpAny_pyIter_tuple (show s1.heap.IsTuple a its.toArray from p) ?_
    refine ⟨s1.heap.objs.size, [s1.heap.objs.size], _, _, H1, rfl, I1.kept (t' := s1.toks) fun b o e => Heap.get?_push_of_some _ e, turn_tuple a _, ⟨_, Heap.get?_push_size _ rfl, rfl, rfl⟩, fun b hb => ?_, q⟩
    have e : b = s1.heap.objs.size := by simpa using hb
    subst e
    exact I1.fpOk (Nat.le_refl _) (I1.hok.fresh (Nat.le_refl _))
theorem itOk_list {K : PySem.W.Frag} {ρ : List Addr} {H : Hp} {n : Nat} {a : Addr} (hn : ρ[n]? = some a) : ItOk K ρ H (Z.itList n) (Itl K a) := by
  intro i ρ1 h1 H1 e1 R1
  have hn1 := e1.pre _ _ hn
  unfold Z.itList
  cases e : h1[n]? with
  | none => trivial
  | some o =>
    cases o with
    | lst xs =>
      obtain ⟨b, eb, ys, e2, rs⟩ := R1.at_ n _ e
      rw [hn1] at eb; cases eb
      dsimp only
      cases q : xs[i]? with
      | none =>
        refine ⟨ys, .of e2, ?_⟩
        rw [← rs.length]
        exact List.getElem?_eq_none_iff.mp q
      | some d =>
        obtain ⟨y, q1, q2⟩ := rs.get q
        refine ⟨⟨ys, y, .of e2, q1⟩, fun x H' hy => ?_⟩
        obtain ⟨eH, hy⟩ := hy
        have := hy ys (.of e2)
        rw [q1] at this; cases this
        exact it_same R1 eH q2
    | _ => trivial
theorem itOk_xs {K : PySem.W.Frag} {ρ : List Addr} {H : Hp} {a : Addr} {xs : List Z.D} {ys : List V} (q : SqF K H a ys) (r : RelDs K ρ H xs ys) : ItOk K ρ H (Z.itXs xs) (Itl K a) := by
  intro i ρ1 h1 H1 e1 R1
  have q' := (e1.sqF q).sqL
  have r' := RelDs.mono e1 _ _ r
  unfold Z.itXs
  cases e : xs[i]? with
  | none => exact ⟨ys, q', by rw [← r.length]; exact List.getElem?_eq_none_iff.mp e⟩
  | some d =>
    obtain ⟨y, q1, q2⟩ := r'.get e
    refine ⟨⟨ys, y, q', q1⟩, fun x H' hy => ?_⟩
    have := hy.2 ys q'
    rw [q1] at this; cases this
    exact it_same R1 hy.1 q2
theorem itOk_tup {K : PySem.W.Frag} {ρ : List Addr} {H : Hp} {a : Addr} {xs : List Z.D} {ys : List V} (q : SqT K H a ys) (r : RelDs K ρ H xs ys) : ItOk K ρ H (Z.itXs xs) (Itt K a) := by
  intro i ρ1 h1 H1 e1 R1
  have q' := e1.sqT q
  have r' := RelDs.mono e1 _ _ r
  unfold Z.itXs
  cases e : xs[i]? with
  | none => exact ⟨ys, q', by rw [← r.length]; exact List.getElem?_eq_none_iff.mp e⟩
  | some d =>
    obtain ⟨y, q1, q2⟩ := r'.get e
    refine ⟨⟨ys, y, q', q1⟩, fun x H' hy => ?_⟩
    have := hy.2 ys q'
    rw [q1] at this; cases this
    exact it_same R1 hy.1 q2
theorem itOk_rng {K : PySem.W.Frag} {ρ : List Addr} {H : Hp} {lo : Int} {n : Nat} : ItOk K ρ H (Z.itRng lo n) (Itr lo n) := by
  intro i ρ1 h1 H1 e1 R1
  unfold Z.itRng
  by_cases hi : i < n
  · rw [if_pos hi]
    refine ⟨hi, fun x H' hy => it_same R1 hy.1 ?_⟩
    simp only [RelD]
    exact hy.2
  · rw [if_neg hi]
    exact Nat.le_of_not_lt hi
theorem li_val {tg l : Expr} {e' : Z.Ex} (hl : LE X sub Γ E l e') : LI X sub Γ E tg l .val (.cons e' .nil) := by
  refine PIw (pi_seq hl) ?_
  rintro σ H Rr ⟨ρ, h, τ, Q', R, L, w, k⟩
  simp only [Z.wpEs] at w
  refine ⟨ρ, h, τ, _, R, L, w, fun d h1 ρ1 H1 x e1 R1 r1 w1 => ?_⟩
  obtain ⟨J, eJ, hk⟩ := k [d] h1 ρ1 H1 [x] e1 R1 (.one r1) w1
  cases d with
  | str s => cases eJ
  | tup xs =>
    cases eJ
    simp only [RelD] at r1
    obtain ⟨a, ys, rfl, q, rs⟩ := r1
    exact ⟨a, rfl, .inr ⟨⟨ys, q⟩, hk _ (itOk_tup q rs)⟩⟩
  | rol xs =>
    cases eJ
    simp only [RelD] at r1
    obtain ⟨a, ys, rfl, q, rs⟩ := r1
    exact ⟨a, rfl, .inl ⟨⟨ys, q.sqL⟩, hk _ (itOk_xs q rs)⟩⟩
  | ref n =>
    simp only [RelD] at r1
    obtain ⟨a, rfl, q⟩ := r1
    simp only [Z.iterOf, Z.ioV, Z.ioR, Z.ioE, Z.ioZ, Z.ioB] at eJ
    cases e : h1[n]? with
    | none => rw [e] at eJ; cases eJ
    | some o =>
      rw [e] at eJ
      cases o with
      | lst xs =>
        cases eJ
        obtain ⟨b, eb, ys, e2, rs⟩ := R1.at_ n _ e
        rw [q] at eb; cases eb
        exact ⟨a, rfl, .inl ⟨⟨ys, .of e2⟩, hk _ (itOk_list q)⟩⟩
      | _ => cases eJ
  | non => cases eJ
  | bl _ => cases eJ
  | int _ => cases eJ
theorem okR_of {i : Int} (h : Z.okR i = true) : -(2 ^ 62) ≤ i ∧ i < 2 ^ 62 := by have := Z.okR_iff.mp h; omega
theorem li_rng1 {tg a : Expr} {a' : Z.Ex} {p pos : Pos} (hg : Gl X "range") (hm : X.mg "range" = none) (ha : LA X sub Γ E [a] (.cons a' .nil)) (hs : starEach [a] X.env = [(false, eval a X.env)]) : LI X sub Γ E tg (.Call (.Name "range" p) [a] [] pos) .rng (.cons a' .nil) := by
  refine PIw (pi_range1 hg hm ha hs) ?_
  rintro σ H Rr ⟨ρ, h, τ, Q', R, L, w, k⟩
  refine ⟨ρ, h, τ, fun ds h1 => match ds with | [d] => Q' [d] h1 | _ => False, R, L, (by simpa only [Z.wpEs] using w), fun ds h1 ρ1 H1 vs e1 R1 r1 w1 => ?_⟩
  match ds, w1, r1 with
  | [d], w1, r1 =>
    obtain ⟨J, eJ, hk⟩ := k [d] h1 ρ1 H1 vs e1 R1 r1 w1
    simp only [RelDs] at r1
    obtain ⟨v, _, rfl, r1, rfl⟩ := r1
    cases d with
    | int i =>
      simp only [Z.iterOf, Z.ioV, Z.ioR, Z.ioE, Z.ioZ, Z.ioB] at eJ
      split at eJ
      · rename_i hi
        cases eJ
        simp only [RelD] at r1
        subst r1
        exact ⟨i, rfl, (okR_of hi).1, (okR_of hi).2, hk _ itOk_rng⟩
      · cases eJ
    | _ => simp only [Z.iterOf, Z.ioV, Z.ioR, Z.ioE, Z.ioZ, Z.ioB] at eJ; cases eJ
  | [], w1, _ => exact w1.elim
  | _ :: _ :: _, w1, _ => exact w1.elim
theorem ls_for {tg iter : Expr} {i : Nat} {x : Str} {tpos : Pos} {kd : Z.IK} {src : Z.Exs} {body : List Stmt} {b' : Z.Sms} {pos : Pos} (hp : PassesOwn (model X.prog X.w) X.A X.env X.xe) (hc : X.calm = true)
    (hN : X.N.Nodup) (hi : X.N[i]? = some x) (hx : Loc X.env.scope x) (hf : X.fn x = true ∨ X.env.scope.names.lookup x = some .local)
    (hit : LI X sub Γ E (.Name x tpos) iter kd src) (hb : LSs X sub Γ E body b') (hs : ∀ x, foldedSetIterable iter X.env x = pure x) : LS X sub Γ E (.For (.Name x tpos) iter body [] pos) (.forr [i] kd src b') := by
  refine PSw (ps_for hp hc hit (pg_name hN hi hx hf) hb hs) ?_
  rintro D σ H ⟨ρ, h, τ, N, R, L, w, k⟩
  simp only [Z.wpS] at w
  refine ⟨ρ, h, τ, _, R, L, w, fun ds h1 ρ1 H1 vs e1 R1 r1 w1 => ?_⟩
  cases eJ : Z.iterOf kd ds h1 with
  | none => rw [eJ] at w1; exact w1.elim
  | some J =>
    rw [eJ] at w1
    refine ⟨J, rfl, fun J' hJ => ?_⟩
    obtain ⟨W, ⟨m, w0⟩, turn⟩ := w1
    refine ⟨fun i m σ' H' => ∃ ρ' h' τ', Ext X.K ρ1 H1 ρ' H' ∧ Rep X.K ρ' h' H' ∧ RelL X.K ρ' H' τ' σ' ∧ W i m τ' h', ⟨m, ρ1, h1, τ, .refl, R1, L.mono e1, w0⟩, ?_⟩
    rintro n m σ2 H2 ⟨ρ2, h2, τ2, e2, R2, L2', w2⟩
    have t := turn n m τ2 h2 w2
    have j := hJ n ρ2 h2 H2 e2 R2
    cases ev : J n h2 with
    | none => rw [ev] at t; exact t.elim
    | some o =>
      rw [ev] at t j
      cases o with
      | none => exact .inl ⟨j, k.nx τ2 h2 ρ2 H2 σ2 (e1.trans e2) R2 L2' t⟩
      | some d =>
        obtain ⟨go, yl⟩ := j
        have hbd : Z.bindT [i] d τ2 = some (τ2.set i (some d)) := by cases d <;> rfl
        simp only [hbd] at t
        obtain ⟨Nn, hNn, t⟩ := t
        refine .inr ⟨go, fun σ' H' => ∃ m', m' < m ∧ ∃ ρ' h' τ', Ext X.K ρ1 H1 ρ' H' ∧ Rep X.K ρ' h' H' ∧ RelL X.K ρ' H' τ' σ' ∧ W (n + 1) m' τ' h', fun σ' H' q => q, fun v H' hy => ?_⟩
        obtain ⟨eX, R2, rv⟩ := yl v H' hy
        have e2 := e2.trans eX
        have L2' := L2'.mono eX
        refine ⟨ρ2, h2, τ2.set i (some d), _, R2, L2'.set rv, t, ⟨?_, ?_, ?_, ?_⟩⟩
        · intro τ3 h3 ρ3 H3 σ3 e3 R3 L3 w3
          obtain ⟨m', hm, w3⟩ := hNn _ _ w3
          exact ⟨m', hm, ρ3, h3, τ3, e2.trans e3, R3, L3, w3⟩
        · intro d h3 ρ3 H3 v e3 R3 r3 w3
          exact k.rt d h3 ρ3 H3 v (e1.trans (e2.trans e3)) R3 r3 w3
        · intro τ3 h3 ρ3 H3 σ3 e3 R3 L3 w3
          exact k.nx τ3 h3 ρ3 H3 σ3 (e1.trans (e2.trans e3)) R3 L3 w3
        · intro τ3 h3 ρ3 H3 σ3 e3 R3 L3 w3
          obtain ⟨m', hm, w3⟩ := hNn _ _ w3
          exact ⟨m', hm, ρ3, h3, τ3, e2.trans e3, R3, L3, w3⟩
end
end ZS
set_option linter.all false
set_option maxRecDepth 100000
set_option maxHeartbeats 4000000
namespace ZS
open PySem PySem.Spec PyProof.Rows L2
variable [R0]
section
variable {X : Cx} {pins : List (Addr × Obj)} {σ : L2.St} {H : Hp} {s : Shared} {ρ : List Addr}
theorem str_beqA (a b : List Nat) : ((⟨a.toArray⟩ : Str) == ⟨b.toArray⟩) = (a == b) := by
  by_cases e : a = b
  · subst e; simp
  · have : ¬ ((⟨a.toArray⟩ : Str) = ⟨b.toArray⟩) := fun q => e (by injection q with q; exact (List.toArray_inj q))
    rw [beq_eq_false_iff_ne.mpr this, beq_eq_false_iff_ne.mpr e]
theorem eq_self_same (I : Inv X pins σ H s) : ∀ (n : Nat) (d d' : Z.D) (v : V) (b : Bool), RelD X.K ρ H d v → RelD X.K ρ H d' v → Z.eqN n d d' = some b → b = true := by
  intro n
  induction n with
  | zero =>
    intro d d' v b r r' e
    cases d <;> cases d' <;> simp only [Z.eqN, RelD] at r r' e <;> first
      | (cases e; done)
      | (cases e; rfl)
      | (cases e; subst r; cases r'; simp; done)
      | (cases e; obtain ⟨rfl, _⟩ := r; obtain ⟨r', _⟩ := r'; cases r'; simp; done)
      | (cases e; subst r; obtain ⟨r', _⟩ := r'; cases r'; done)
      | (cases e; obtain ⟨rfl, _⟩ := r; cases r'; done)
  | succ n ih =>
    have all : ∀ (xs xs' : List Z.D) (ys : List V) (b : Bool), RelDs X.K ρ H xs ys → RelDs X.K ρ H xs' ys → Z.eqZ (Z.eqN n) xs xs' = some b → b = true := by
      intro xs
      induction xs with
      | nil =>
        intro xs' ys b r r' e
        simp only [RelDs] at r
        subst r
        cases xs' with
        | nil => simp only [Z.eqZ] at e; cases e; rfl
        | cons _ _ => simp only [RelDs] at r'; obtain ⟨_, _, r', _⟩ := r'; cases r'
      | cons x xs ihx =>
        intro xs' ys b r r' e
        simp only [RelDs] at r
        obtain ⟨y, t, rfl, q, r⟩ := r
        cases xs' with
        | nil => simp only [RelDs] at r'; cases r'
        | cons x' xs' =>
          simp only [RelDs] at r'
          obtain ⟨y', t', e', q', r'⟩ := r'
          cases e'
          simp only [Z.eqZ] at e
          split at e
          · rename_i a c ea ec
            cases e
            rw [ih _ _ _ _ q q' ea, ihx _ _ _ r r' ec]; rfl
          · cases e
    intro d d' v b r r' e
    cases d <;> cases d' <;> simp only [Z.eqN, RelD] at r r' e <;> first
      | (cases e; done)
      | (cases e; rfl)
      | (cases e; subst r; cases r'; simp; done)
      | (cases e; obtain ⟨rfl, _⟩ := r; obtain ⟨r', _⟩ := r'; cases r'; simp; done)
      | (cases e; subst r; obtain ⟨r', _⟩ := r'; cases r'; done)
      | (cases e; obtain ⟨rfl, _⟩ := r; cases r'; done)
      | (cases e; subst r; obtain ⟨_, _, r', _⟩ := r'; cases r'; done)
      | (cases e; obtain ⟨rfl, _⟩ := r; obtain ⟨_, _, r', _⟩ := r'; cases r'; done)
      | (cases e; obtain ⟨_, _, rfl, _⟩ := r; cases r'; done)
      | (cases e; obtain ⟨_, _, rfl, _⟩ := r; obtain ⟨r', _⟩ := r'; cases r'; done)
      | (obtain ⟨a, ys, rfl, q, r⟩ := r
         obtain ⟨a', ys', ea, q', r'⟩ := r'
         cases ea
         have := I.tuple_inj q q'
         subst this
         exact all _ _ _ _ r r' e)
theorem eqZ_get {f : Z.D → Z.D → Option Bool} : ∀ {xs ys : List Z.D} {b : Bool}, Z.eqZ f xs ys = some b → ∃ e : Nat → Bool, (∀ (j : Nat) x y, xs[j]? = some x → ys[j]? = some y → f x y = some (e j)) ∧ b = ((List.range (min xs.length ys.length)).all e && xs.length == ys.length) := by
  intro xs
  induction xs with
  | nil =>
    intro ys b h
    cases ys with
    | nil => simp only [Z.eqZ] at h; cases h; exact ⟨fun _ => true, fun j x y h => by simp at h, by simp⟩
    | cons _ _ => simp only [Z.eqZ] at h; cases h; exact ⟨fun _ => true, fun j x y h => by simp at h, by simp⟩
  | cons x xs ih =>
    intro ys b h
    cases ys with
    | nil => simp only [Z.eqZ] at h; cases h; exact ⟨fun _ => true, fun j x y h h' => by simp at h', by simp⟩
    | cons y ys =>
      simp only [Z.eqZ] at h
      split at h
      · rename_i a c ea ec
        cases h
        obtain ⟨e, h1, h2⟩ := ih ec
        refine ⟨fun j => match j with | 0 => a | j + 1 => e j, fun j x' y' hx hy => ?_, ?_⟩
        · cases j with
          | zero => simp at hx hy; subst hx hy; exact ea
          | succ j => exact h1 j x' y' (by simpa using hx) (by simpa using hy)
        · rw [h2, List.length_cons, List.length_cons, Nat.succ_min_succ, List.range_succ_eq_map, List.all_cons, List.all_map, Bool.and_assoc]
          have hl : (xs.length == ys.length) = (xs.length + 1 == ys.length + 1) := by
            by_cases hl : xs.length = ys.length <;> simp [hl]
          rw [hl]
          rfl
      · cases h
theorem items_at {A : Around} {xs xs' : List Z.D} {ys ys' : List V} {its its' : List Value} {f : Z.D → Z.D → Option Bool} {e : Nat → Bool} (r : RelDs X.K ρ H xs ys) (r' : RelDs X.K ρ H xs' ys') (v : Vals ys its) (v' : Vals ys' its')
    (he : ∀ (j : Nat) x y, xs[j]? = some x → xs'[j]? = some y → f x y = some (e j))
    (hf : ∀ x x' y y' u u' b, RelD X.K ρ H x y → RelD X.K ρ H x' y' → RelV y u → RelV y' u' → f x x' = some b → SeqAt.EqAt A s u u' b) :
    ∀ j (h1 : j < its.toArray.size) (h2 : j < its'.toArray.size), SeqAt.EqAt A s its.toArray[j] its'.toArray[j] (e j) := by
  intro j h1 h2
  have l1 : j < xs.length := by rw [r.length, v.length]; simpa using h1
  have l2 : j < xs'.length := by rw [r'.length, v'.length]; simpa using h2
  obtain ⟨y, ey, ry⟩ := r.get (i := j) (x := xs[j]) (by simp [l1])
  obtain ⟨y', ey', ry'⟩ := r'.get (i := j) (x := xs'[j]) (by simp [l2])
  obtain ⟨u, eu, ru⟩ := v.get ey
  obtain ⟨u', eu', ru'⟩ := v'.get ey'
  have a1 : its.toArray[j] = u := by
    have : its[j]? = some its[j] := by simp
    rw [this] at eu; cases eu; simp
  have a2 : its'.toArray[j] = u' := by
    have : its'[j]? = some its'[j] := by simp
    rw [this] at eu'; cases eu'; simp
  rw [a1, a2]
  exact hf _ _ _ _ _ _ _ ry ry' ru ru' (he j _ _ (by simp [l1]) (by simp [l2]))
theorem rcAt_D (I : Inv X pins σ H s) : ∀ (n : Nat) (A : Around) (d d' : Z.D) (v v' : V) (u u' : Value) (b : Bool), A.units + n < cLine → RelD X.K ρ H d v → RelD X.K ρ H d' v' → RelV v u → RelV v' u' → Z.eqN n d d' = some b →
    SeqAt.RcAt A s u u' b ∧ SeqAt.EqAt A s u u' b := by
  intro n
  induction n with
  | zero =>
    intro A d d' v v' u u' b hu r r' q q' e
    cases d <;> cases d' <;> simp only [Z.eqN, RelD] at r r' e <;> first | (cases e; done) | skip
    all_goals cases e
    · subst r r'; cases q; cases q'; exact ⟨.none_none, .same _⟩
    · subst r r'; cases q; cases q'; exact ⟨.none_bool _, .none_bool _⟩
    · subst r r'; cases q; obtain ⟨_, rfl⟩ := q'; exact ⟨.none_int _ _, .none_int _ _⟩
    · obtain ⟨r', _⟩ := r'; subst r r'; cases q; obtain ⟨_, rfl⟩ := q'; exact ⟨.none_str _ _, .none_str _ _⟩
    · subst r r'; cases q; cases q'; exact ⟨.bool_none _, .bool_none _⟩
    · subst r r'; cases q; cases q'; exact ⟨.bool_bool _ _, .bool_bool _ _⟩
    · obtain ⟨r', _⟩ := r'; subst r r'; cases q; obtain ⟨_, rfl⟩ := q'; exact ⟨.bool_str _ _ _, .bool_str _ _ _⟩
    · subst r r'; cases q'; obtain ⟨_, rfl⟩ := q; exact ⟨.int_none _ _, .int_none _ _⟩
    · subst r r'; obtain ⟨_, rfl⟩ := q'; obtain ⟨_, rfl⟩ := q; exact ⟨.int_int _ _ _ _, .int_int _ _ _ _⟩
    · obtain ⟨r', _⟩ := r'; subst r r'; obtain ⟨_, rfl⟩ := q'; obtain ⟨_, rfl⟩ := q; exact ⟨.int_str _ _ _ _, .int_str _ _ _ _⟩
    · obtain ⟨r, _⟩ := r; subst r r'; cases q'; obtain ⟨_, rfl⟩ := q; exact ⟨.str_none _ _, .str_none _ _⟩
    · obtain ⟨r, _⟩ := r; subst r r'; cases q'; obtain ⟨_, rfl⟩ := q; exact ⟨.str_bool _ _ _, .str_bool _ _ _⟩
    · obtain ⟨r, _⟩ := r; subst r r'; obtain ⟨_, rfl⟩ := q'; obtain ⟨_, rfl⟩ := q; exact ⟨.str_int _ _ _ _, .str_int _ _ _ _⟩
    · obtain ⟨r, _⟩ := r; obtain ⟨r', _⟩ := r'; subst r r'; obtain ⟨_, rfl⟩ := q'; obtain ⟨_, rfl⟩ := q; rw [← str_beqA]; exact ⟨.str_str _ _ _ _, .str_str _ _ _ _⟩
  | succ n ih =>
    intro A d d' v v' u u' b hu r r' q q' e
    have hu' : A.units < cLine := by omega
    cases d <;> cases d' <;> simp only [Z.eqN, RelD] at r r' e <;> first | (cases e; done) | skip
    · cases e; subst r r'; cases q; cases q'; exact ⟨.none_none, .same _⟩
    · cases e; subst r r'; cases q; cases q'; exact ⟨.none_bool _, .none_bool _⟩
    · cases e; subst r r'; cases q; obtain ⟨_, rfl⟩ := q'; exact ⟨.none_int _ _, .none_int _ _⟩
    · cases e; obtain ⟨r', _⟩ := r'; subst r r'; cases q; obtain ⟨_, rfl⟩ := q'; exact ⟨.none_str _ _, .none_str _ _⟩
    · cases e; obtain ⟨a, ys, r', hq, _⟩ := r'; subst r r'; cases q; cases q'; obtain ⟨its, _, it, _⟩ := I.tuple hq; exact ⟨.none_tuple (show s.heap.IsTuple a its.toArray from it) hu', .none_tuple (show s.heap.IsTuple a its.toArray from it) hu'⟩
    · cases e; subst r r'; cases q; cases q'; exact ⟨.bool_none _, .bool_none _⟩
    · cases e; subst r r'; cases q; cases q'; exact ⟨.bool_bool _ _, .bool_bool _ _⟩
    · cases e; obtain ⟨r', _⟩ := r'; subst r r'; cases q; obtain ⟨_, rfl⟩ := q'; exact ⟨.bool_str _ _ _, .bool_str _ _ _⟩
    · cases e; obtain ⟨a, ys, r', hq, _⟩ := r'; subst r r'; cases q; cases q'; obtain ⟨its, _, it, _⟩ := I.tuple hq; exact ⟨.bool_tuple _ (show s.heap.IsTuple a its.toArray from it) hu', .bool_tuple _ (show s.heap.IsTuple a its.toArray from it) hu'⟩
    · cases e; subst r r'; cases q'; obtain ⟨_, rfl⟩ := q; exact ⟨.int_none _ _, .int_none _ _⟩
    · cases e; subst r r'; obtain ⟨_, rfl⟩ := q'; obtain ⟨_, rfl⟩ := q; exact ⟨.int_int _ _ _ _, .int_int _ _ _ _⟩
    · cases e; obtain ⟨r', _⟩ := r'; subst r r'; obtain ⟨_, rfl⟩ := q'; obtain ⟨_, rfl⟩ := q; exact ⟨.int_str _ _ _ _, .int_str _ _ _ _⟩
    · cases e; obtain ⟨a, ys, r', hq, _⟩ := r'; subst r r'; obtain ⟨_, rfl⟩ := q; cases q'; obtain ⟨its, _, it, _⟩ := I.tuple hq; exact ⟨.int_tuple _ _ (show s.heap.IsTuple a its.toArray from it) hu', .int_tuple _ _ (show s.heap.IsTuple a its.toArray from it) hu'⟩
    · cases e; obtain ⟨r, _⟩ := r; subst r r'; cases q'; obtain ⟨_, rfl⟩ := q; exact ⟨.str_none _ _, .str_none _ _⟩
    · cases e; obtain ⟨r, _⟩ := r; subst r r'; cases q'; obtain ⟨_, rfl⟩ := q; exact ⟨.str_bool _ _ _, .str_bool _ _ _⟩
    · cases e; obtain ⟨r, _⟩ := r; subst r r'; obtain ⟨_, rfl⟩ := q'; obtain ⟨_, rfl⟩ := q; exact ⟨.str_int _ _ _ _, .str_int _ _ _ _⟩
    · cases e; obtain ⟨r, _⟩ := r; obtain ⟨r', _⟩ := r'; subst r r'; obtain ⟨_, rfl⟩ := q'; obtain ⟨_, rfl⟩ := q; rw [← str_beqA]; exact ⟨.str_str _ _ _ _, .str_str _ _ _ _⟩
    · cases e; obtain ⟨a, ys, r', hq, _⟩ := r'; obtain ⟨r, _⟩ := r; subst r r'; obtain ⟨_, rfl⟩ := q; cases q'; obtain ⟨its, _, it, _⟩ := I.tuple hq; exact ⟨.str_tuple _ _ (show s.heap.IsTuple a its.toArray from it) hu', .str_tuple _ _ (show s.heap.IsTuple a its.toArray from it) hu'⟩
    · cases e; obtain ⟨a, ys, r, hq, _⟩ := r; subst r r'; cases q; cases q'; obtain ⟨its, _, it, _⟩ := I.tuple hq; exact ⟨.tuple_none (show s.heap.IsTuple a its.toArray from it) hu', .tuple_none (show s.heap.IsTuple a its.toArray from it) hu'⟩
    · cases e; obtain ⟨a, ys, r, hq, _⟩ := r; subst r r'; cases q; cases q'; obtain ⟨its, _, it, _⟩ := I.tuple hq; exact ⟨.tuple_bool _ (show s.heap.IsTuple a its.toArray from it) hu', .tuple_bool _ (show s.heap.IsTuple a its.toArray from it) hu'⟩
    · cases e; obtain ⟨a, ys, r, hq, _⟩ := r; subst r r'; cases q; obtain ⟨_, rfl⟩ := q'; obtain ⟨its, _, it, _⟩ := I.tuple hq; exact ⟨.tuple_int _ _ (show s.heap.IsTuple a its.toArray from it) hu', .tuple_int _ _ (show s.heap.IsTuple a its.toArray from it) hu'⟩
    · cases e; obtain ⟨a, ys, r, hq, _⟩ := r; obtain ⟨r', _⟩ := r'; subst r r'; cases q; obtain ⟨_, rfl⟩ := q'; obtain ⟨its, _, it, _⟩ := I.tuple hq; exact ⟨.tuple_str _ _ (show s.heap.IsTuple a its.toArray from it) hu', .tuple_str _ _ (show s.heap.IsTuple a its.toArray from it) hu'⟩
    · rename_i xs xs'
      obtain ⟨a, ys, e1, hq, rs⟩ := r
      obtain ⟨a', ys', e2, hq', rs'⟩ := r'
      subst e1 e2
      cases q; cases q'
      obtain ⟨its, vv, it, _⟩ := I.tuple hq
      obtain ⟨its', vv', it', _⟩ := I.tuple hq'
      obtain ⟨ee, h1, h2⟩ := eqZ_get e
      have hlen : its.toArray.size = xs.length := by rw [List.size_toArray, ← vv.length, ← rs.length]
      have hlen' : its'.toArray.size = xs'.length := by rw [List.size_toArray, ← vv'.length, ← rs'.length]
      have at' := items_at (A := A.in1) rs rs' vv vv' h1 (fun x x' y y' u u' b hx hx' hy hy' hb => (ih A.in1 x x' y y' u u' b (by show A.units + 1 + n < cLine; omega) hx hx' hy hy' hb).2)
      have rc : SeqAt.RcAt A s (.ref a) (.ref a') b := by
        have := SeqAt.RcAt.tuples (A := A) (show s.heap.IsTuple a its.toArray from it) (show s.heap.IsTuple a' its'.toArray from it') hu' at'
        rw [hlen, hlen', ← h2] at this
        exact this
      refine ⟨rc, ?_⟩
      by_cases ha : a = a'
      · subst ha
        have : b = true := eq_self_same I (n + 1) (.tup xs) (.tup xs') (.ref a) b (by simp only [RelD]; exact ⟨a, ys, rfl, hq, rs⟩) (by simp only [RelD]; exact ⟨a, ys', rfl, hq', rs'⟩) (by simp only [Z.eqN]; exact e)
        subst this
        exact .same _
      · exact .of_refs ha rc
end
end ZS
set_option linter.all false
set_option maxRecDepth 100000
set_option maxHeartbeats 4000000
namespace ZS
open PySem PySem.Spec PyProof.Rows L2
variable [R0]
section
variable {K : PySem.W.Frag} {ρ : List Addr} {h : Z.AH} {H : Hp}
theorem rel1' {ds : List Z.D} {x : V} (r : RelDs K ρ H ds [x]) : ∃ d, ds = [d] ∧ RelD K ρ H d x := by
  cases ds with
  | nil => simp only [RelDs] at r; cases r
  | cons d ds =>
    simp only [RelDs] at r
    obtain ⟨y, t, e, r1, r2⟩ := r
    cases e
    cases ds with
    | nil => exact ⟨d, rfl, r1⟩
    | cons _ _ => simp only [RelDs] at r2; obtain ⟨_, _, e, _⟩ := r2; cases e
theorem relCons' {ds : List Z.D} {x : V} {xs : List V} (r : RelDs K ρ H ds (x :: xs)) : ∃ d ds', ds = d :: ds' ∧ RelD K ρ H d x ∧ RelDs K ρ H ds' xs := by
  cases ds with
  | nil => simp only [RelDs] at r; cases r
  | cons d ds =>
    simp only [RelDs] at r
    obtain ⟨y, t, e, r1, r2⟩ := r
    cases e
    exact ⟨d, ds, rfl, r1, r2⟩
theorem rel2' {ds : List Z.D} {x y : V} (r : RelDs K ρ H ds [x, y]) : ∃ d e, ds = [d, e] ∧ RelD K ρ H d x ∧ RelD K ρ H e y := by
  obtain ⟨d, ds, rfl, r1, r⟩ := relCons' r
  obtain ⟨e, rfl, r2⟩ := rel1' r
  exact ⟨d, e, rfl, r1, r2⟩
theorem relNil' {ds : List Z.D} (r : RelDs K ρ H ds []) : ds = [] := by
  cases ds with
  | nil => rfl
  | cons _ _ => simp only [RelDs] at r; obtain ⟨_, _, e, _⟩ := r; cases e
theorem lstAt {n : Nat} {v : V} {xs : List Z.D} (R : Rep K ρ h H) (r : RelD K ρ H (.ref n) v) (e : h[n]? = some (.lst xs)) : ∃ a ys, v = .ref a ∧ ρ[n]? = some a ∧ H a = some (.lst ys) ∧ RelDs K ρ H xs ys := by
  simp only [RelD] at r
  obtain ⟨a, rfl, q⟩ := r
  obtain ⟨b, e1, ys, e2, rs⟩ := R.at_ n _ e
  rw [q] at e1; cases e1
  exact ⟨a, ys, rfl, q, e2, rs⟩
theorem dctAt {n : Nat} {v : V} {kvs : List (Z.KK × Z.D)} (R : Rep K ρ h H) (r : RelD K ρ H (.ref n) v) (e : h[n]? = some (.dct kvs)) : ∃ a kvs', v = .ref a ∧ ρ[n]? = some a ∧ H a = some (.dK kvs') ∧ kvs'.map (·.1) = kvs.map (fun p => kOf p.1) ∧ RelDs K ρ H (kvs.map (·.2)) (kvs'.map (·.2)) ∧ ∀ p ∈ kvs, ∀ s, p.1 = Sum.inr s → s.length ≤ Z.lim := by
  simp only [RelD] at r
  obtain ⟨a, rfl, q⟩ := r
  obtain ⟨b, e1, ys, e2, rs⟩ := R.at_ n _ e
  rw [q] at e1; cases e1
  exact ⟨a, ys, rfl, q, e2, rs⟩
theorem newL_inv {xs : List Z.D} {d : Z.D} {h' : Z.AH} (e : Z.newL xs h = some (d, h')) : xs.length ≤ Z.lim ∧ d = .ref h.length ∧ h' = h ++ [.lst xs] := by
  unfold Z.newL at e
  split at e
  · cases e; exact ⟨by assumption, rfl, rfl⟩
  · cases e
theorem setL_inv {n : Nat} {xs : List Z.D} {v d : Z.D} {h' : Z.AH} (e : Z.setL n xs v h = some (d, h')) : xs.length ≤ Z.lim ∧ d = v ∧ h' = h.set n (.lst xs) := by
  unfold Z.setL at e
  split at e
  · cases e; exact ⟨by assumption, rfl, rfl⟩
  · cases e
theorem set_list' {n : Nat} {a : Addr} {xs ys : List Z.D} {vs ws : List V} (R : Rep K ρ h H) (hn : ρ[n]? = some a) (ha : H a = some (.lst vs)) (r : RelDs K ρ H ys ws) : Ext K ρ H ρ (upd H a (.lst ws)) ∧ Rep K ρ (h.set n (.lst ys)) (upd H a (.lst ws)) := by
  have e : Ext K ρ H ρ (upd H a (.lst ws)) := Ext.write ha (fun _ => by simp) (fun _ _ => by simp)
  exact ⟨e, R.write hn ha (fun _ => by simp) (fun _ _ => by simp) ⟨ws, upd_same, RelDs.mono e _ _ r⟩⟩
theorem strLen (s : List Nat) : (⟨s.toArray⟩ : Str).length = s.length := by
  show s.toArray.size = _
  simp
theorem strApp (s t : List Nat) : (⟨s.toArray⟩ ++ ⟨t.toArray⟩ : Str) = ⟨(s ++ t).toArray⟩ := by
  show Str.mk (s.toArray ++ t.toArray) = _
  simp
end
section
variable {X : Cx} {sub : Nat → Nat → Bool}
theorem o_int2 {p : Z.Prim} {f : Int → Int → Int} {op : Value → Value → Sem Value} (hp : Z.prim sub p = Z.pInt2 f) (ho : OpR X op (rI0 fun i j => .int (f i j))) : OpR X op (fun x y => rP X.K sub p [x, y]) := OpRw ho (by
  rintro x y H Q ⟨ρ, h, ds, d, h', R, r, q, k⟩
  obtain ⟨d1, d2, rfl, r1, r2⟩ := rel2' r
  rw [hp] at q
  unfold Z.pInt2 at q
  split at q
  · rename_i e; cases e; cases q
    simp only [RelD] at r1 r2
    subst r1 r2
    exact ⟨_, _, rfl, rfl, k ρ H _ .refl R (by simp only [RelD])⟩
  · cases q)
theorem o_cmp {p : Z.Prim} {f : Int → Int → Bool} {op : Value → Value → Sem Value} (hp : Z.prim sub p = Z.pCmp f) (ho : OpR X op (rI0 fun i j => .bl (f i j))) : OpR X op (fun x y => rP X.K sub p [x, y]) := OpRw ho (by
  rintro x y H Q ⟨ρ, h, ds, d, h', R, r, q, k⟩
  obtain ⟨d1, d2, rfl, r1, r2⟩ := rel2' r
  rw [hp] at q
  unfold Z.pCmp at q
  split at q
  · rename_i e; cases e; cases q
    simp only [RelD] at r1 r2
    subst r1 r2
    exact ⟨_, _, rfl, rfl, k ρ H _ .refl R (by simp only [RelD])⟩
  · cases q)
theorem o_lt : OpR X (compareOp .Lt) (fun x y => rP X.K sub .lt [x, y]) := o_cmp rfl op_lt
theorem o_mod : OpR X (binaryOp .Mod) (fun x y => rP X.K sub .mod [x, y]) := OpRw op_mod (by
  rintro x y H Q ⟨ρ, h, ds, d, h', R, r, q, k⟩
  obtain ⟨d1, d2, rfl, r1, r2⟩ := rel2' r
  change Z.pMod _ _ = _ at q
  unfold Z.pMod at q
  split at q
  · rename_i e; cases e
    split at q
    · cases q
      simp only [RelD] at r1 r2
      subst r1 r2
      exact ⟨_, _, rfl, rfl, by assumption, k ρ H _ .refl R (by simp only [RelD])⟩
    · cases q
  · cases q)
theorem log2_lt_of {n k : Nat} (hk : 0 < k) (h : n < 2 ^ k) : n.log2 < k := by
  by_cases z : n = 0
  · subst z; simpa using hk
  · exact (Nat.log2_lt z).mpr h
theorem nat_of_big {i : Int} (h : -2037035976334486086268445688409378161051468393665936250636140449354381299763336706183397376 < i ∧ i < 2037035976334486086268445688409378161051468393665936250636140449354381299763336706183397376) : i.natAbs < 2 ^ 300 := by
  have e : (2 : Nat) ^ 300 = 2037035976334486086268445688409378161051468393665936250636140449354381299763336706183397376 := by decide +kernel
  rw [e]; omega
theorem op_fdivB : OpR X (binaryOp .FloorDiv) (rI (fun _ j => 0 < j ∧ -2037035976334486086268445688409378161051468393665936250636140449354381299763336706183397376 < j ∧ j < 2037035976334486086268445688409378161051468393665936250636140449354381299763336706183397376) fun i j => .int (i / j)) := opI fun i j _ _ _ _ _ hc q => by
  have h1 : (0 : Int) < j := hc.1
  exact floordiv_int (Int.ne_of_gt h1) (by rw [Int.fdiv_eq_ediv_of_nonneg i (Int.le_of_lt h1)]; exact q) (.inl (PyProof.noPylong_of_log2 (Nat.lt_trans (log2_lt_of (by decide) (nat_of_big hc.2)) (by decide))))
theorem bits_of_big {i : Int} (h : -2037035976334486086268445688409378161051468393665936250636140449354381299763336706183397376 < i ∧ i < 2037035976334486086268445688409378161051468393665936250636140449354381299763336706183397376) : Builtin.Int.intBits i ≤ 2 ^ 20 := by
  have := log2_lt_of (by decide) (nat_of_big h)
  unfold Builtin.Int.intBits
  have e : (2 : Nat) ^ 20 = 1048576 := by decide
  rw [e]
  split <;> omega
theorem op_mulB : OpR X (binaryOp .Mult) (rI (fun i j => (-2037035976334486086268445688409378161051468393665936250636140449354381299763336706183397376 < i ∧ i < 2037035976334486086268445688409378161051468393665936250636140449354381299763336706183397376) ∧ (-2037035976334486086268445688409378161051468393665936250636140449354381299763336706183397376 < j ∧ j < 2037035976334486086268445688409378161051468393665936250636140449354381299763336706183397376)) fun i j => .int (i * j)) := opI fun i j _ _ _ _ _ hc q => mul_int q (.of_bits (bits_of_big hc.1) (bits_of_big hc.2))
theorem o_fdiv : OpR X (binaryOp .FloorDiv) (fun x y => rP X.K sub .fdiv [x, y]) := OpRw op_fdivB (by
  rintro x y H Q ⟨ρ, h, ds, d, h', R, r, q, k⟩
  obtain ⟨d1, d2, rfl, r1, r2⟩ := rel2' r
  change Z.pFdiv _ _ = _ at q
  unfold Z.pFdiv at q
  split at q
  · rename_i e; cases e
    split at q
    · rename_i hc
      cases q
      simp only [RelD] at r1 r2
      subst r1 r2
      exact ⟨_, _, rfl, rfl, ⟨hc.1, Z.bigI_iff.mp hc.2⟩, k ρ H _ .refl R (by simp only [RelD])⟩
    · cases q
  · cases q)
theorem Inv.rolM {pins : List (Addr × Obj)} {s : Shared} {σ : L2.St} {H : Hp} {l : Addr} {xs : List V} (I : Inv X pins σ H s) (q : SqF X.K H l xs) : xs.length ≤ sizeLine ∧ ∃ (its : List Value) (n : Nat), Vals xs its ∧ s.heap.get? l = some { cls := .type "list", data := .seq its.toArray n } := by
  rcases q with ⟨o, q⟩ | ⟨o, its, n, h1, h2, h3, h4, h5, h6, h7⟩
  · obtain ⟨z, its, n, r, e⟩ := Rd.ok (.inr ⟨o, q⟩) I.hok
    exact ⟨z, its, n, r, e⟩
  · have := h6.length
    refine ⟨by simp at this; omega, its.toList, n, h6, ?_⟩
    rw [I.kIn l o h1]
    obtain ⟨c, dd, da, sl⟩ := o
    cases h2; cases h3; cases h4; cases h7
    simp
theorem op_catE : OpR X (binaryOp .Add) (fun x y H Q => ∃ a b ys, x = .ref a ∧ y = .ref b ∧ SqT X.K H a [] ∧ SqT X.K H b ys ∧ Q (.ref b) H) := by
  intro pins s σ H x y v u Q I rx ry h
  obtain ⟨a, b, ys, rfl, rfl, ha, hb, q⟩ := h
  cases rx
  cases ry
  obtain ⟨its, r1, p1, _⟩ := I.tuple ha
  obtain ⟨its2, r2, p2, _⟩ := I.tuple hb
  obtain ⟨⟨cls, dd, data, sl⟩, ho, hc, n, hd⟩ := id p1
  obtain ⟨⟨cls2, dd2, data2, sl2⟩, ho2, hc2, n2, hd2⟩ := id p2
  simp only at hc hd hc2 hd2
  subst hc hd hc2 hd2
  cases r1
  exact concat_meets ⟨_, ho, rfl⟩ ⟨_, ho2, rfl⟩ noFill_tuple_add seq_tuple_add PySem.F.slot_tuple_add PySem.F.entry_tuple_add (PySem.F.args_tuple_add_2 _ _)
      (tuple_addW0 a b _ _ n n2 dd dd2 sl sl2 (by simp)) ⟨ho, ho2, ⟨.ref b, H, I, rfl, q⟩⟩
theorem op_catR : OpR X (binaryOp .Add) (fun x y H Q => ∃ l b xs zs, x = .ref l ∧ y = .ref b ∧ H l = some (.lst xs) ∧ SqF X.K H b zs ∧ xs.length + zs.length ≤ sizeLine ∧ ∀ p, H p = none → Q (.ref p) (upd H p (.lst (xs ++ zs)))) := by
  intro pins s σ H x y v u Q I rx ry h
  obtain ⟨l, b, xs, zs, rfl, rfl, hH, hB, hz, q⟩ := h
  cases rx
  cases ry
  obtain ⟨z, its, n, r, hl, e⟩ := I.lstM hH
  obtain ⟨z2, its2, n2, r2, e2⟩ := Inv.rolM I hB
  have hl2 := r2.length
  refine PySem.P.add_list e e2 ?_ (by rw [List.size_toArray, List.size_toArray]; omega)
  have ea : its.toArray ++ its2.toArray = (its ++ its2).toArray := by simp
  rw [ea]
  exact ⟨.ref _, _, I.lnew (t' := s.toks) (r.append r2) (by rw [List.length_append]; omega), rfl, q _ I.fresh⟩
theorem o_add : OpR X (binaryOp .Add) (fun x y => rP X.K sub .add [x, y]) := OpRw (op_add.or (op_add_str.or (op_cat.or (op_catT.or (op_catR.or op_catE))))) (by
  rintro x y H Q ⟨ρ, h, ds, d, h', R, r, q, k⟩
  obtain ⟨d1, d2, rfl, r1, r2⟩ := rel2' r
  change Z.pAdd _ _ = _ at q
  unfold Z.pAdd at q
  split at q
  · rename_i e; cases e; cases q
    simp only [RelD] at r1 r2
    subst r1 r2
    exact .inl ⟨_, _, rfl, rfl, k ρ H _ .refl R (by simp only [RelD])⟩
  · rename_i s t e; cases e
    split at q
    · rename_i hl
      cases q
      simp only [RelD] at r1 r2
      obtain ⟨rfl, l1⟩ := r1
      obtain ⟨rfl, l2⟩ := r2
      refine .inr (.inl ⟨_, _, rfl, rfl, by rw [strLen, strLen, ← limE]; exact hl, k ρ H _ .refl R ?_⟩)
      simp only [RelD]
      exact ⟨by rw [strApp], by rw [List.length_append]; exact hl⟩
    · cases q
  · rename_i s t e; cases e
    split at q
    · rename_i he
      cases q
      simp only [RelD] at r1 r2
      obtain ⟨a, ys, rfl, q1, r1⟩ := r1
      obtain ⟨b, zs, rfl, q2, r2⟩ := r2
      have hs : s = [] := by simpa using he
      subst hs
      simp only [RelDs] at r1
      subst r1
      exact .inr (.inr (.inr (.inr (.inr ⟨a, b, zs, rfl, rfl, q1, q2, k ρ H _ .refl R (by simp only [RelD]; exact ⟨b, zs, rfl, q2, r2⟩)⟩))))
    · rename_i hne
      split at q
      · rename_i hl
        cases q
        simp only [RelD] at r1 r2
        obtain ⟨a, ys, rfl, q1, r1⟩ := r1
        obtain ⟨b, zs, rfl, q2, r2⟩ := r2
        refine .inr (.inr (.inr (.inl ⟨a, b, ys, zs, rfl, rfl, q1, q2, ?_, by rw [← r1.length, ← r2.length, ← limE]; exact hl, fun hz => ?_, fun _ p hp => ?_⟩)))
        · intro z; subst z
          have := r1.length
          simp at this hne
          exact hne this
        · subst hz
          have := r2.length
          simp at this
          subst this
          rw [List.append_nil] at k
          exact k ρ H _ .refl R (by simp only [RelD]; exact ⟨a, ys, rfl, q1, r1⟩)
        · have e2 : Ext X.K ρ H ρ (upd H p (.tup (ys ++ zs))) := Ext.fresh hp
          exact k ρ _ _ e2 (R.fresh hp) (by simp only [RelD]; exact ⟨p, _, rfl, .of upd_same, RelDs.mono e2 _ _ (r1.append r2)⟩)
      · cases q
  · rename_i a b e; cases e
    split at q
    · rename_i xs ys e1 e2
      obtain ⟨l, vs, rfl, _, ha, r1⟩ := lstAt R r1 e1
      obtain ⟨l', vs', rfl, _, hb, r2⟩ := lstAt R r2 e2
      obtain ⟨hl, rfl, rfl⟩ := newL_inv q
      refine .inr (.inr (.inl ⟨l, l', vs, vs', rfl, rfl, ha, hb, by rw [← r1.length, ← r2.length, ← limE, ← List.length_append]; exact hl, fun p hp => ?_⟩))
      obtain ⟨e2, R2, r2⟩ := new_list R (r1.append r2) hp
      exact k _ _ _ e2 R2 r2
    · cases q
  · rename_i a ys e; cases e
    split at q
    · rename_i xs e1
      obtain ⟨l, vs, rfl, _, ha, r1⟩ := lstAt R r1 e1
      simp only [RelD] at r2
      obtain ⟨b, zs, rfl, q2, r2⟩ := r2
      obtain ⟨hl, rfl, rfl⟩ := newL_inv q
      refine .inr (.inr (.inr (.inr (.inl ⟨l, b, vs, zs, rfl, rfl, ha, q2, by rw [← r1.length, ← r2.length, ← limE, ← List.length_append]; exact hl, fun p hp => ?_⟩))))
      obtain ⟨e2, R2, r2⟩ := new_list R (r1.append r2) hp
      exact k _ _ _ e2 R2 r2
    · cases q
  · cases q)
theorem rel_rep {K : PySem.W.Frag} {ρ : List Addr} {H : Hp} {xs : List Z.D} {vs : List V} (n : Nat) (r : RelDs K ρ H xs vs) : RelDs K ρ H (List.replicate n xs).flatten (List.replicate n vs).flatten := by
  induction n with
  | zero => simp [RelDs]
  | succ n ih => rw [List.replicate_succ, List.replicate_succ, List.flatten_cons, List.flatten_cons]; exact r.append ih
theorem o_mul : OpR X (binaryOp .Mult) (fun x y => rP X.K sub .mul [x, y]) := by
  intro pins s σ H x y v u Q I rx ry ⟨ρ, h, ds, d, h', R, r, q, k⟩
  obtain ⟨d1, d2, rfl, r1, r2⟩ := rel2' r
  change Z.pMul _ _ = _ at q
  unfold Z.pMul at q
  split at q
  · rename_i i j e; cases e
    split at q
    · rename_i hc
      cases q
      simp only [RelD] at r1 r2
      subst r1 r2
      rw [Bool.or_eq_true] at hc
      rcases hc with hc | hc
      · refine op_mul pins s σ H _ _ v u Q I rx ry ⟨_, _, rfl, rfl, ?_, k ρ H _ .refl R (by simp only [RelD])⟩
        rw [Bool.or_eq_true] at hc
        exact hc.imp (fun z => by have := Z.smallI_iff.mp z; omega) (fun z => by have := Z.smallI_iff.mp z; omega)
      · rw [Bool.and_eq_true] at hc
        exact op_mulB pins s σ H _ _ v u Q I rx ry ⟨_, _, rfl, rfl, ⟨Z.bigI_iff.mp hc.1, Z.bigI_iff.mp hc.2⟩, k ρ H _ .refl R (by simp only [RelD])⟩
    · cases q
  · rename_i a kk e; cases e
    split at q
    · rename_i xs e1
      split at q
      · rename_i hk
        obtain ⟨l, vs, rfl, _, ha, r1⟩ := lstAt R r1 e1
        obtain ⟨hl, rfl, rfl⟩ := newL_inv q
        simp only [RelD] at r2
        subst r2
        have hk' := okR_of hk
        have hlen : vs.length * kk.toNat ≤ sizeLine := by
          rw [← r1.length, ← limE, Nat.mul_comm]
          rw [len_rep] at hl
          exact hl
        refine op_rep pins s σ H _ _ v u Q I rx ry ⟨l, kk, vs, rfl, rfl, ha, by omega, by omega, hlen, fun p hp => ?_⟩
        obtain ⟨e2, R2, r2⟩ := new_list R (rel_rep kk.toNat r1) hp
        exact k _ _ _ e2 R2 r2
      · cases q
    · cases q
  · cases q
end
end ZS
set_option linter.all false
set_option maxRecDepth 100000
set_option maxHeartbeats 4000000
namespace ZS
open PySem PySem.Spec PyProof.Rows L2
variable [R0]
section
variable {X : Cx} {sub : Nat → Nat → Bool}
theorem rcNe_of {A : Around} {s : Shared} {u u' : Value} {pins : List (Addr × Obj)} {σ : L2.St} {H : Hp} {ρ : List Addr} (I : Inv X pins σ H s) (n : Nat) (d d' : Z.D) (v v' : V) (b : Bool) (hu : A.units + n < cLine) (r : RelD X.K ρ H d v) (r' : RelD X.K ρ H d' v') (q : RelV v u) (q' : RelV v' u') (e : Z.eqN n d d' = some b) :
    SeqAt.RcNeAt A s u u' (!b) := by
  cases n with
  | zero =>
    cases d <;> cases d' <;> simp only [Z.eqN, RelD] at r r' e <;> first | (cases e; done) | skip
    all_goals cases e
    · subst r r'; cases q; cases q'; exact .none_none
    · subst r r'; cases q; cases q'; exact .none_bool _
    · subst r r'; cases q; obtain ⟨_, rfl⟩ := q'; exact .none_int _ _
    · obtain ⟨r', _⟩ := r'; subst r r'; cases q; obtain ⟨_, rfl⟩ := q'; exact .none_str _ _
    · subst r r'; cases q; cases q'; exact .bool_none _
    · subst r r'; cases q; cases q'; exact .bool_bool _ _
    · obtain ⟨r', _⟩ := r'; subst r r'; cases q; obtain ⟨_, rfl⟩ := q'; exact .bool_str _ _ _
    · subst r r'; cases q'; obtain ⟨_, rfl⟩ := q; exact .int_none _ _
    · subst r r'; obtain ⟨_, rfl⟩ := q'; obtain ⟨_, rfl⟩ := q; exact .int_int _ _ _ _
    · obtain ⟨r', _⟩ := r'; subst r r'; obtain ⟨_, rfl⟩ := q'; obtain ⟨_, rfl⟩ := q; exact .int_str _ _ _ _
    · obtain ⟨r, _⟩ := r; subst r r'; cases q'; obtain ⟨_, rfl⟩ := q; exact .str_none _ _
    · obtain ⟨r, _⟩ := r; subst r r'; cases q'; obtain ⟨_, rfl⟩ := q; exact .str_bool _ _ _
    · obtain ⟨r, _⟩ := r; subst r r'; obtain ⟨_, rfl⟩ := q'; obtain ⟨_, rfl⟩ := q; exact .str_int _ _ _ _
    · obtain ⟨r, _⟩ := r; obtain ⟨r', _⟩ := r'; subst r r'; obtain ⟨_, rfl⟩ := q'; obtain ⟨_, rfl⟩ := q; rw [← str_beqA]; exact .str_str _ _ _ _
  | succ n =>
    have hu' : A.units < cLine := by omega
    cases d <;> cases d' <;> simp only [Z.eqN, RelD] at r r' e <;> first | (cases e; done) | skip
    · cases e; subst r r'; cases q; cases q'; exact .none_none
    · cases e; subst r r'; cases q; cases q'; exact .none_bool _
    · cases e; subst r r'; cases q; obtain ⟨_, rfl⟩ := q'; exact .none_int _ _
    · cases e; obtain ⟨r', _⟩ := r'; subst r r'; cases q; obtain ⟨_, rfl⟩ := q'; exact .none_str _ _
    · cases e; obtain ⟨a, ys, r', hq, _⟩ := r'; subst r r'; cases q; cases q'; obtain ⟨its, _, it, _⟩ := I.tuple hq; exact .none_tuple (show s.heap.IsTuple a its.toArray from it) hu'
    · cases e; subst r r'; cases q; cases q'; exact .bool_none _
    · cases e; subst r r'; cases q; cases q'; exact .bool_bool _ _
    · cases e; obtain ⟨r', _⟩ := r'; subst r r'; cases q; obtain ⟨_, rfl⟩ := q'; exact .bool_str _ _ _
    · cases e; obtain ⟨a, ys, r', hq, _⟩ := r'; subst r r'; cases q; cases q'; obtain ⟨its, _, it, _⟩ := I.tuple hq; exact .bool_tuple _ (show s.heap.IsTuple a its.toArray from it) hu'
    · cases e; subst r r'; cases q'; obtain ⟨_, rfl⟩ := q; exact .int_none _ _
    · cases e; subst r r'; obtain ⟨_, rfl⟩ := q'; obtain ⟨_, rfl⟩ := q; exact .int_int _ _ _ _
    · cases e; obtain ⟨r', _⟩ := r'; subst r r'; obtain ⟨_, rfl⟩ := q'; obtain ⟨_, rfl⟩ := q; exact .int_str _ _ _ _
    · cases e; obtain ⟨a, ys, r', hq, _⟩ := r'; subst r r'; obtain ⟨_, rfl⟩ := q; cases q'; obtain ⟨its, _, it, _⟩ := I.tuple hq; exact .int_tuple _ _ (show s.heap.IsTuple a its.toArray from it) hu'
    · cases e; obtain ⟨r, _⟩ := r; subst r r'; cases q'; obtain ⟨_, rfl⟩ := q; exact .str_none _ _
    · cases e; obtain ⟨r, _⟩ := r; subst r r'; cases q'; obtain ⟨_, rfl⟩ := q; exact .str_bool _ _ _
    · cases e; obtain ⟨r, _⟩ := r; subst r r'; obtain ⟨_, rfl⟩ := q'; obtain ⟨_, rfl⟩ := q; exact .str_int _ _ _ _
    · cases e; obtain ⟨r, _⟩ := r; obtain ⟨r', _⟩ := r'; subst r r'; obtain ⟨_, rfl⟩ := q'; obtain ⟨_, rfl⟩ := q; rw [← str_beqA]; exact .str_str _ _ _ _
    · cases e; obtain ⟨a, ys, r', hq, _⟩ := r'; obtain ⟨r, _⟩ := r; subst r r'; obtain ⟨_, rfl⟩ := q; cases q'; obtain ⟨its, _, it, _⟩ := I.tuple hq; exact .str_tuple _ _ (show s.heap.IsTuple a its.toArray from it) hu'
    · cases e; obtain ⟨a, ys, r, hq, _⟩ := r; subst r r'; cases q; cases q'; obtain ⟨its, _, it, _⟩ := I.tuple hq; exact .tuple_none (show s.heap.IsTuple a its.toArray from it) hu'
    · cases e; obtain ⟨a, ys, r, hq, _⟩ := r; subst r r'; cases q; cases q'; obtain ⟨its, _, it, _⟩ := I.tuple hq; exact .tuple_bool _ (show s.heap.IsTuple a its.toArray from it) hu'
    · cases e; obtain ⟨a, ys, r, hq, _⟩ := r; subst r r'; cases q; obtain ⟨_, rfl⟩ := q'; obtain ⟨its, _, it, _⟩ := I.tuple hq; exact .tuple_int _ _ (show s.heap.IsTuple a its.toArray from it) hu'
    · cases e; obtain ⟨a, ys, r, hq, _⟩ := r; obtain ⟨r', _⟩ := r'; subst r r'; cases q; obtain ⟨_, rfl⟩ := q'; obtain ⟨its, _, it, _⟩ := I.tuple hq; exact .tuple_str _ _ (show s.heap.IsTuple a its.toArray from it) hu'
    · rename_i xs xs'
      obtain ⟨a, ys, e1, hq, rs⟩ := r
      obtain ⟨a', ys', e2, hq', rs'⟩ := r'
      subst e1 e2
      cases q; cases q'
      obtain ⟨its, vv, it, _⟩ := I.tuple hq
      obtain ⟨its', vv', it', _⟩ := I.tuple hq'
      obtain ⟨ee, h1, h2⟩ := eqZ_get e
      have hlen : its.toArray.size = xs.length := by rw [List.size_toArray, ← vv.length, ← rs.length]
      have hlen' : its'.toArray.size = xs'.length := by rw [List.size_toArray, ← vv'.length, ← rs'.length]
      have at' := items_at (A := A.in1) rs rs' vv vv' h1 (fun x x' y y' u u' b hx hx' hy hy' hb => (rcAt_D I n A.in1 x x' y y' u u' b (by show A.units + 1 + n < cLine; omega) hx hx' hy hy' hb).2)
      have := SeqAt.RcNeAt.tuples (A := A) (show s.heap.IsTuple a its.toArray from it) (show s.heap.IsTuple a' its'.toArray from it') hu' at'
      rw [hlen, hlen', ← h2] at this
      exact this
theorem eqH_cases {h : Z.AH} {d1 d2 : Z.D} {b : Bool} (e : Z.eqH h d1 d2 = some b) : Z.eqN 150 d1 d2 = some b ∨ ∃ a c xs ys, d1 = .ref a ∧ d2 = .ref c ∧ h[a]? = some (.lst xs) ∧ h[c]? = some (.lst ys) ∧ Z.eqLs xs ys = some b := by
  unfold Z.eqH at e
  split at e
  · rename_i a c
    split at e
    · rename_i xs ys e1 e2
      exact .inr ⟨a, c, xs, ys, rfl, rfl, e1, e2, e⟩
    · cases e
  · exact .inl e
theorem o_eqne {neg : Bool} (hu : X.A.units + 200 < cLine) : OpR X (compareOp (if neg then .NotEq else .Eq)) (fun x y => rP X.K sub (if neg then .ne else .eq) [x, y]) := by
  intro pins s σ H x y v u Q I rx ry ⟨ρ, h, ds, d, h', R, r, q, k⟩
  obtain ⟨d1, d2, rfl, r1, r2⟩ := rel2' r
  have q' : Z.pEq neg [d1, d2] h = some (d, h') := by cases neg <;> exact q
  unfold Z.pEq at q'
  cases e : Z.eqH h d1 d2 with
  | none => simp only [e] at q'; cases q'
  | some b =>
    simp only [e] at q'
    cases q'
    have fin : EP X pins σ Q (.bool (b != neg)) s := ⟨.bl (b != neg), H, I, rfl, k ρ H _ .refl R (by simp only [RelD])⟩
    rcases eqH_cases e with e | ⟨a, c, xs, ys, rfl, rfl, e1, e2, e⟩
    · cases neg with
      | false => rw [Bool.bne_false] at fin; exact (rcAt_D I 150 X.A d1 d2 x y v u b (by omega) r1 r2 rx ry e).1 _ _ _ _ fin
      | true => rw [Bool.bne_true] at fin; exact rcNe_of I 150 d1 d2 x y b (by omega) r1 r2 rx ry e _ _ _ _ fin
    · obtain ⟨l, vs, rfl, _, ha, r1⟩ := lstAt R r1 e1
      obtain ⟨l', vs', rfl, _, hb, r2⟩ := lstAt R r2 e2
      cases rx; cases ry
      obtain ⟨its, vv, pl, _⟩ := I.list (.of ha)
      obtain ⟨its', vv', pl', _⟩ := I.list (.of hb)
      have hlen : its.toArray.size = xs.length := by rw [List.size_toArray, ← vv.length, ← r1.length]
      have hlen' : its'.toArray.size = ys.length := by rw [List.size_toArray, ← vv'.length, ← r2.length]
      unfold Z.eqLs at e
      split at e
      · rename_i hl
        obtain ⟨ee, h1, h2⟩ := eqZ_get e
        have at' := items_at (A := X.A.in1) r1 r2 vv vv' h1 (fun x x' y y' u u' b hx hx' hy hy' hb => (rcAt_D I 149 X.A.in1 x x' y y' u u' b (by show X.A.units + 1 + 149 < cLine; omega) hx hx' hy hy' hb).2)
        have hb' : b = (List.range its.toArray.size).all ee := by
          rw [h2, hlen, hl, Nat.min_self]; simp
        cases neg with
        | false => rw [Bool.bne_false, hb'] at fin; exact SeqAt.RcAt.lists pl.isList pl'.isList (by rw [hlen, hlen', hl]) (by omega) at' _ _ _ _ fin
        | true => rw [Bool.bne_true, hb'] at fin; exact SeqAt.RcNeAt.lists pl.isList pl'.isList (by rw [hlen, hlen', hl]) (by omega) at' _ _ _ _ fin
      · rename_i hl
        cases e
        cases neg with
        | false => exact SeqAt.RcAt.lists_lengths pl.isList pl'.isList (by rw [hlen, hlen']; simp [hl]) (by omega) _ _ _ _ fin
        | true => exact SeqAt.RcNeAt.lists_lengths pl.isList pl'.isList (by rw [hlen, hlen']; simp [hl]) (by omega) _ _ _ _ fin
theorem o_eq (hu : X.A.units + 200 < cLine) : OpR X (compareOp .Eq) (fun x y => rP X.K sub .eq [x, y]) := o_eqne (neg := false) hu
theorem o_ne (hu : X.A.units + 200 < cLine) : OpR X (compareOp .NotEq) (fun x y => rP X.K sub .ne [x, y]) := o_eqne (neg := true) hu
section
variable {pins : List (Addr × Obj)} {σ : L2.St} {H : Hp} {s : Shared} {ρ : List Addr} {h : Z.AH}
theorem noK (I : Inv X pins σ H s) {a : Addr} {o : Obj} {u : HO} (e : X.K.lookup a = some o) (e' : H a = some u) : False := by
  have := (I.bs a o (I.mod.kin a o e)).2
  rw [e'] at this; cases this
theorem tup_tracked (I : Inv X pins σ H s) (R : Rep X.K ρ h H) {n : Nat} {a : Addr} {ys : List V} (e : ρ[n]? = some a) (q : SqT X.K H a ys) : False := by
  have hn : n < h.length := by rw [← R.len]; exact (List.getElem?_eq_some_iff.mp e).1
  obtain ⟨b, e1, r⟩ := R.at_ n h[n] (by simp [hn])
  rw [e] at e1; cases e1
  have nt : (∀ xs, H a ≠ some (.tup xs)) ∧ (∀ o xs, H a ≠ some (.frz o (.tup xs))) ∧ ∃ u, H a = some u := by
    cases ho : h[n] with
    | lst xs => rw [ho] at r; obtain ⟨ys, q, _⟩ := r; rw [q]; exact ⟨(fun _ z => by cases z), (fun _ _ z => by cases z), _, rfl⟩
    | dct xs => rw [ho] at r; obtain ⟨ys, q, _⟩ := r; rw [q]; exact ⟨(fun _ z => by cases z), (fun _ _ z => by cases z), _, rfl⟩
    | obj _ _ => rw [ho] at r; obtain ⟨C, dx, fs', _, q, _⟩ := r; rw [q]; exact ⟨(fun _ z => by cases z), (fun _ _ z => by cases z), _, rfl⟩
    | exc _ => rw [ho] at r; obtain ⟨C, oe, _, q, _⟩ := r; rw [q]; exact ⟨(fun _ z => by cases z), (fun _ _ z => by cases z), _, rfl⟩
  obtain ⟨n1, n2, u, hu⟩ := nt
  rcases q with (q | ⟨o, q⟩) | ⟨o, _, _, q, _⟩
  · exact n1 _ q
  · exact n2 _ _ q
  · exact noK I q hu
theorem rol_tracked (I : Inv X pins σ H s) (R : Rep X.K ρ h H) {n : Nat} {a : Addr} {ys : List V} (e : ρ[n]? = some a) (q : SqF X.K H a ys) : False := by
  have hn : n < h.length := by rw [← R.len]; exact (List.getElem?_eq_some_iff.mp e).1
  obtain ⟨b, e1, r⟩ := R.at_ n h[n] (by simp [hn])
  rw [e] at e1; cases e1
  have nt : (∀ o xs, H a ≠ some (.frz o (.lst xs))) ∧ ∃ u, H a = some u := by
    cases ho : h[n] with
    | lst xs => rw [ho] at r; obtain ⟨ys, q, _⟩ := r; rw [q]; exact ⟨(fun _ _ z => by cases z), _, rfl⟩
    | dct xs => rw [ho] at r; obtain ⟨ys, q, _⟩ := r; rw [q]; exact ⟨(fun _ _ z => by cases z), _, rfl⟩
    | obj _ _ => rw [ho] at r; obtain ⟨C, dx, fs', _, q, _⟩ := r; rw [q]; exact ⟨(fun _ _ z => by cases z), _, rfl⟩
    | exc _ => rw [ho] at r; obtain ⟨C, oe, _, q, _⟩ := r; rw [q]; exact ⟨(fun _ _ z => by cases z), _, rfl⟩
  obtain ⟨n2, u, hu⟩ := nt
  rcases q with ⟨o, q⟩ | ⟨o, _, _, q, _⟩
  · exact n2 _ _ q
  · exact noK I q hu
theorem tup_rol (I : Inv X pins σ H s) {a : Addr} {ys zs : List V} (q : SqT X.K H a ys) (q' : SqF X.K H a zs) : False := by
  rcases q with (q | ⟨o, q⟩) | ⟨o, _, _, q, c, _⟩ <;> rcases q' with ⟨o', q'⟩ | ⟨o', _, _, q', c', _⟩
  · rw [q] at q'; cases q'
  · exact noK I q' q
  · rw [q] at q'; cases q'
  · exact noK I q' q
  · exact noK I q q'
  · rw [q] at q'; cases q'
    rw [c] at c'
    exact absurd c' (by decide)
mutual
theorem RelD.inj (I : Inv X pins σ H s) (R : Rep X.K ρ h H) : ∀ (d d' : Z.D) (v : V), RelD X.K ρ H d v → RelD X.K ρ H d' v → d = d'
  | .non, d', v, r, r' => by
    simp only [RelD] at r; subst r
    cases d' <;> simp only [RelD] at r' <;> first | rfl | (cases r'; done) | (obtain ⟨r', _⟩ := r'; cases r'; done) | (obtain ⟨_, _, r', _⟩ := r'; cases r'; done) | (obtain ⟨_, r', _⟩ := r'; cases r'; done)
  | .bl b, d', v, r, r' => by
    simp only [RelD] at r; subst r
    cases d' <;> simp only [RelD] at r' <;> first | (cases r'; rfl) | (cases r'; done) | (obtain ⟨r', _⟩ := r'; cases r'; done) | (obtain ⟨_, _, r', _⟩ := r'; cases r'; done) | (obtain ⟨_, r', _⟩ := r'; cases r'; done)
  | .int b, d', v, r, r' => by
    simp only [RelD] at r; subst r
    cases d' <;> simp only [RelD] at r' <;> first | (cases r'; rfl) | (cases r'; done) | (obtain ⟨r', _⟩ := r'; cases r'; done) | (obtain ⟨_, _, r', _⟩ := r'; cases r'; done) | (obtain ⟨_, r', _⟩ := r'; cases r'; done)
  | .str b, d', v, r, r' => by
    simp only [RelD] at r; obtain ⟨rfl, _⟩ := r
    cases d' <;> simp only [RelD] at r' <;> first | (cases r'; done) | (obtain ⟨r', _⟩ := r'; injection r' with r'; injection r' with r'; rw [List.toArray_inj r']; done) | (obtain ⟨r', _⟩ := r'; cases r'; done) | (obtain ⟨_, _, r', _⟩ := r'; cases r'; done) | (obtain ⟨_, r', _⟩ := r'; cases r'; done)
  | .tup xs, d', v, r, r' => by
    simp only [RelD] at r; obtain ⟨a, ys, rfl, q, rs⟩ := r
    cases d' with
    | tup xs' =>
      simp only [RelD] at r'
      obtain ⟨a', ys', e, q', rs'⟩ := r'
      cases e
      have := I.tuple_inj q q'
      subst this
      rw [RelDs.inj I R xs xs' ys rs rs']
    | rol xs' => simp only [RelD] at r'; obtain ⟨a', ys', e, q', rs'⟩ := r'; cases e; exact (tup_rol I q q').elim
    | ref n => simp only [RelD] at r'; obtain ⟨a', e, q'⟩ := r'; cases e; exact (tup_tracked I R q' q).elim
    | non => simp only [RelD] at r'; cases r'
    | bl _ => simp only [RelD] at r'; cases r'
    | int _ => simp only [RelD] at r'; cases r'
    | str _ => simp only [RelD] at r'; cases r'.1
  | .rol xs, d', v, r, r' => by
    simp only [RelD] at r; obtain ⟨a, ys, rfl, q, rs⟩ := r
    cases d' with
    | rol xs' =>
      simp only [RelD] at r'
      obtain ⟨a', ys', e, q', rs'⟩ := r'
      cases e
      have := I.list_inj q.sqL q'.sqL
      subst this
      rw [RelDs.inj I R xs xs' ys rs rs']
    | tup xs' => simp only [RelD] at r'; obtain ⟨a', ys', e, q', rs'⟩ := r'; cases e; exact (tup_rol I q' q).elim
    | ref n => simp only [RelD] at r'; obtain ⟨a', e, q'⟩ := r'; cases e; exact (rol_tracked I R q' q).elim
    | non => simp only [RelD] at r'; cases r'
    | bl _ => simp only [RelD] at r'; cases r'
    | int _ => simp only [RelD] at r'; cases r'
    | str _ => simp only [RelD] at r'; cases r'.1
  | .ref n, d', v, r, r' => by
    simp only [RelD] at r; obtain ⟨a, rfl, q⟩ := r
    cases d' with
    | ref m => simp only [RelD] at r'; obtain ⟨a', e, q'⟩ := r'; cases e; rw [nodup_inj R.nd q q']
    | rol xs' => simp only [RelD] at r'; obtain ⟨a', ys', e, q', rs'⟩ := r'; cases e; exact (rol_tracked I R q q').elim
    | tup xs' => simp only [RelD] at r'; obtain ⟨a', ys', e, q', rs'⟩ := r'; cases e; exact (tup_tracked I R q q').elim
    | non => simp only [RelD] at r'; cases r'
    | bl _ => simp only [RelD] at r'; cases r'
    | int _ => simp only [RelD] at r'; cases r'
    | str _ => simp only [RelD] at r'; cases r'.1
theorem RelDs.inj (I : Inv X pins σ H s) (R : Rep X.K ρ h H) : ∀ (d d' : List Z.D) (v : List V), RelDs X.K ρ H d v → RelDs X.K ρ H d' v → d = d'
  | [], d', v, r, r' => by simp only [RelDs] at r; subst r; exact (relNil' r').symm
  | x :: xs, d', v, r, r' => by
    simp only [RelDs] at r
    obtain ⟨y, t, rfl, q, rs⟩ := r
    obtain ⟨x', xs', rfl, q', rs'⟩ := relCons' r'
    rw [RelD.inj I R x x' y q q', RelDs.inj I R xs xs' t rs rs']
end
theorem inDs_get {x : Z.D} : ∀ {ys : List Z.D} {b : Bool}, Z.inDs x ys = some b → ∃ e : Nat → Bool, (∀ (j : Nat) y, ys[j]? = some y → Z.eqN 149 y x = some (e j)) ∧ b = (List.range ys.length).any e := by
  intro ys
  induction ys with
  | nil => intro b h; simp only [Z.inDs] at h; cases h; exact ⟨fun _ => true, fun j y h => by simp at h, by simp⟩
  | cons y ys ih =>
    intro b h
    simp only [Z.inDs] at h
    split at h
    · rename_i a c ea ec
      cases h
      obtain ⟨e, h1, h2⟩ := ih ec
      refine ⟨fun j => match j with | 0 => a | j + 1 => e j, fun j y' hy => ?_, ?_⟩
      · cases j with
        | zero => simp at hy; subst hy; exact ea
        | succ j => exact h1 j y' (by simpa using hy)
      · rw [h2, List.length_cons, List.range_succ_eq_map, List.any_cons, List.any_map]; rfl
    · cases h
theorem in_word {A : Around} {d1 : Z.D} {x : V} {v : Value} {ys : List Z.D} {vs : List V} {its : List Value} {b : Bool} (I : Inv X pins σ H s) (R : Rep X.K ρ h H) (hu : A.units + 200 < cLine) (r1 : RelD X.K ρ H d1 x) (rx : RelV x v) (rs : RelDs X.K ρ H ys vs) (vv : Vals vs its) (e : Z.inDs d1 ys = some b) :
    ∃ f : Value → Bool, (∀ y, y ∈ its.toArray → SeqAt.EqAt A.in1 s y v (f y)) ∧ its.toArray.any f = b := by
  obtain ⟨g, h1, h2⟩ := inDs_get e
  have at_ : ∀ (j : Nat) (u : Value), its[j]? = some u → SeqAt.EqAt A.in1 s u v (g j) := fun j u hj => by
    have hl : j < ys.length := by rw [rs.length, vv.length]; exact (List.getElem?_eq_some_iff.mp hj).1
    obtain ⟨y, ey, ry⟩ := rs.get (i := j) (x := ys[j]) (by simp [hl])
    obtain ⟨u', eu, ru⟩ := vv.get ey
    rw [hj] at eu; cases eu
    exact (rcAt_D I 149 A.in1 ys[j] d1 y x u v (g j) (by show A.units + 1 + 149 < cLine; omega) ry r1 ru rx (h1 j _ (by simp [hl]))).2
  have one : ∀ (i j : Nat) (u : Value), its[i]? = some u → its[j]? = some u → g i = g j := fun i j u hi hj => by
    have li : i < ys.length := by rw [rs.length, vv.length]; exact (List.getElem?_eq_some_iff.mp hi).1
    have lj : j < ys.length := by rw [rs.length, vv.length]; exact (List.getElem?_eq_some_iff.mp hj).1
    obtain ⟨y, ey, ry⟩ := rs.get (i := i) (x := ys[i]) (by simp [li])
    obtain ⟨y', ey', ry'⟩ := rs.get (i := j) (x := ys[j]) (by simp [lj])
    obtain ⟨u', eu, ru⟩ := vv.get ey
    rw [hi] at eu; cases eu
    obtain ⟨u', eu, ru'⟩ := vv.get ey'
    rw [hj] at eu; cases eu
    have := ru.inj ru'
    subst this
    have ed := RelD.inj I R _ _ _ ry ry'
    have a := h1 i _ (show ys[i]? = some ys[i] by simp [li])
    have c := h1 j _ (show ys[j]? = some ys[j] by simp [lj])
    rw [ed, c] at a
    exact (Option.some.inj a).symm
  classical
  refine ⟨fun u => if hu : ∃ j : Nat, its[j]? = some u then g (Classical.choose hu) else false, fun y hy => ?_, ?_⟩
  · obtain ⟨j, hj, ej⟩ := List.getElem_of_mem (List.mem_toArray.mp hy)
    have ex : ∃ j : Nat, its[j]? = some y := ⟨j, by rw [List.getElem?_eq_getElem hj, ej]⟩
    show SeqAt.EqAt _ _ _ _ (if hu : ∃ j : Nat, its[j]? = some y then g (Classical.choose hu) else false)
    rw [dif_pos ex]
    exact at_ _ _ (Classical.choose_spec ex)
  · rw [h2, List.any_toArray]
    have hlen : ys.length = its.length := by rw [rs.length, vv.length]
    apply Bool.eq_iff_iff.mpr
    rw [List.any_eq_true, List.any_eq_true]
    constructor
    · rintro ⟨u, hu', hf⟩
      obtain ⟨j, hj, ej⟩ := List.getElem_of_mem hu'
      have ex : ∃ j : Nat, its[j]? = some u := ⟨j, by rw [List.getElem?_eq_getElem hj, ej]⟩
      rw [dif_pos ex] at hf
      refine ⟨j, List.mem_range.mpr (by rw [hlen]; exact hj), ?_⟩
      rw [one j _ u (by rw [List.getElem?_eq_getElem hj, ej]) (Classical.choose_spec ex)]
      exact hf
    · rintro ⟨j, hj, hg⟩
      have hj' : j < its.length := by rw [← hlen]; exact List.mem_range.mp hj
      have ex : ∃ i : Nat, its[i]? = some its[j] := ⟨j, by simp [hj']⟩
      refine ⟨its[j], List.getElem_mem hj', ?_⟩
      rw [dif_pos ex, ← one j _ its[j] (by simp [hj']) (Classical.choose_spec ex)]
      exact hg
end
end
end ZS
set_option linter.all false
set_option maxRecDepth 100000
set_option maxHeartbeats 4000000
namespace ZS
open PySem PySem.Spec PyProof.Rows L2
variable [R0]
section
variable {X : Cx} {sub : Nat → Nat → Bool}
theorem kOf_inj {a b : Z.KK} (h : kOf a = kOf b) : a = b := by
  cases a <;> cases b <;> simp only [kOf] at h
  · cases h; rfl
  · cases h
  · cases h
  · injection h with h
    injection h with h
    rw [List.toArray_inj h]
theorem kOf_dec (a b : Z.KK) : decide (kOf a = kOf b) = decide (a = b) := by
  by_cases e : a = b
  · subst e; simp
  · rw [decide_eq_false e, decide_eq_false fun q => e (kOf_inj q)]
theorem kk_rel {K : PySem.W.Frag} {ρ : List Addr} {H : Hp} {d : Z.D} {k : Z.KK} {v : V} (e : Z.kkOf d = some k) (r : RelD K ρ H d v) : v = kV (kOf k) ∧ ∀ s, k = Sum.inr s → s.length ≤ Z.lim := by
  cases d <;> simp only [Z.kkOf] at e <;> first | (cases e; done) | skip
  · cases e; simp only [RelD] at r; subst r; exact ⟨rfl, fun s z => by cases z⟩
  · cases e; simp only [RelD] at r; obtain ⟨rfl, l⟩ := r; exact ⟨rfl, fun s z => by cases z; exact l⟩
theorem val_rel {K : PySem.W.Frag} {ρ : List Addr} {H : Hp} (k : Z.KK) : ∀ (kvs : List (Z.KK × Z.D)) (kvs' : List (Key × V)), kvs'.map (·.1) = kvs.map (fun p => kOf p.1) → RelDs K ρ H (kvs.map (·.2)) (kvs'.map (·.2)) →
    match Z.dGet kvs k with
    | some d => ∃ v, valV kvs' (kOf k) = some v ∧ RelD K ρ H d v
    | none => valV kvs' (kOf k) = none
  | [], kvs', h1, h2 => by
    cases kvs' with
    | nil => rfl
    | cons _ _ => cases h1
  | (k1, d1) :: kvs, kvs', h1, h2 => by
    cases kvs' with
    | nil => cases h1
    | cons p kvs' =>
      obtain ⟨k2, v2⟩ := p
      simp only [List.map_cons, List.cons.injEq] at h1
      obtain ⟨rfl, h1⟩ := h1
      simp only [List.map_cons, RelDs] at h2
      obtain ⟨y, t, e, r1, r2⟩ := h2
      cases e
      have ih := val_rel k kvs kvs' h1 r2
      unfold Z.dGet valV at ih ⊢
      rw [List.find?_cons, List.find?_cons, kOf_dec]
      by_cases e : k1 = k
      · subst e
        simp
        exact r1
      · simp only [decide_eq_false e]
        exact ih
theorem o_in_ {neg : Bool} (hu : X.A.units + 200 < cLine) : OpR X (compareOp (if neg then .NotIn else .In)) (fun x y => rP X.K sub (if neg then .notin else .in_) [x, y]) := by
  intro pins s σ H x y v u Q I rx ry ⟨ρ, h, ds, d, h', R, r, q, k⟩
  obtain ⟨d1, d2, rfl, r1, r2⟩ := rel2' r
  have q' : Z.pIn neg [d1, d2] h = some (d, h') := by cases neg <;> exact q
  unfold Z.pIn at q'
  split at q'
  · rename_i e; cases e; rename_i ys
    cases e : Z.inDs d1 ys with
    | none => rw [e] at q'; cases q'
    | some b =>
      rw [e] at q'; cases q'
      simp only [RelD] at r2
      obtain ⟨a, vs, rfl, hq, rs⟩ := r2
      cases ry
      obtain ⟨its, vv, it, _⟩ := I.tuple hq
      obtain ⟨f, f1, f2⟩ := in_word I R hu r1 rx rs vv e
      have fin : EP X pins σ Q (.bool (b != neg)) s := ⟨.bl (b != neg), H, I, rfl, k ρ H _ .refl R (by simp only [RelD])⟩
      cases neg with
      | false => exact SeqAt.in_tupleAt f (show s.heap.IsTuple a its.toArray from it) f1 (by rw [f2]; rw [Bool.bne_false] at fin; exact fin)
      | true => exact SeqAt.notIn_tupleAt f (show s.heap.IsTuple a its.toArray from it) f1 (by rw [f2]; rw [Bool.bne_true] at fin; exact fin)
  · rename_i e; cases e; rename_i ys
    cases e : Z.inDs d1 ys with
    | none => rw [e] at q'; cases q'
    | some b =>
      rw [e] at q'; cases q'
      simp only [RelD] at r2
      obtain ⟨a, vs, rfl, hq, rs⟩ := r2
      cases ry
      obtain ⟨its, vv, it, _⟩ := I.list hq.sqL
      obtain ⟨f, f1, f2⟩ := in_word I R hu r1 rx rs vv e
      have fin : EP X pins σ Q (.bool (b != neg)) s := ⟨.bl (b != neg), H, I, rfl, k ρ H _ .refl R (by simp only [RelD])⟩
      cases neg with
      | false => exact SeqAt.in_listAt f it.isList f1 (by rw [f2]; rw [Bool.bne_false] at fin; exact fin)
      | true => exact SeqAt.notIn_listAt f it.isList f1 (by rw [f2]; rw [Bool.bne_true] at fin; exact fin)
  · rename_i e; cases e; rename_i n
    split at q'
    · rename_i ys e1
      cases e : Z.inDs d1 ys with
      | none => rw [e] at q'; cases q'
      | some b =>
        rw [e] at q'; cases q'
        obtain ⟨a, vs, rfl, _, hq, rs⟩ := lstAt R r2 e1
        cases ry
        obtain ⟨its, vv, it, _⟩ := I.list (.of hq)
        obtain ⟨f, f1, f2⟩ := in_word I R hu r1 rx rs vv e
        have fin : EP X pins σ Q (.bool (b != neg)) s := ⟨.bl (b != neg), H, I, rfl, k ρ H _ .refl R (by simp only [RelD])⟩
        cases neg with
        | false => exact SeqAt.in_listAt f it.isList f1 (by rw [f2]; rw [Bool.bne_false] at fin; exact fin)
        | true => exact SeqAt.notIn_listAt f it.isList f1 (by rw [f2]; rw [Bool.bne_true] at fin; exact fin)
    · rename_i kvs e1
      cases e : Z.kkOf d1 with
      | none => rw [e] at q'; cases q'
      | some kk =>
        rw [e] at q'; cases q'
        obtain ⟨a, kvs', rfl, _, hq, hk, rs, _⟩ := dctAt R r2 e1
        obtain ⟨rfl, _⟩ := kk_rel e r1
        cases ry
        have vr := val_rel (K := X.K) (ρ := ρ) (H := H) kk kvs kvs' hk rs
        have his : (valV kvs' (kOf kk)).isSome = (Z.dGet kvs kk).isSome := by
          cases e : Z.dGet kvs kk with
          | none => rw [e] at vr; rw [vr]; rfl
          | some d => rw [e] at vr; obtain ⟨v, e', _⟩ := vr; rw [e']; rfl
        have fin : Q (.bl ((Z.dGet kvs kk).isSome != neg)) H := k ρ H _ .refl R (by simp only [RelD])
        have g : DGet H a (kV (kOf kk)) (valV kvs' (kOf kk)) := DGet.k hq
        cases neg with
        | false => exact d_in (by omega) I g rx fun s' I' => ⟨.bl _, H, I', rfl, by rw [his]; rw [Bool.bne_false] at fin; exact fin⟩
        | true => exact d_notIn (by omega) I g rx fun s' I' => ⟨.bl _, H, I', rfl, by rw [his]; rw [Bool.bne_true] at fin; exact fin⟩
    · cases q'
  · cases q'
theorem o_in (hu : X.A.units + 200 < cLine) : OpR X (compareOp .In) (fun x y => rP X.K sub .in_ [x, y]) := o_in_ (neg := false) hu
theorem atI_rel {K : PySem.W.Frag} {ρ : List Addr} {H : Hp} {xs : List Z.D} {ys : List V} {i : Int} {d : Z.D} (r : RelDs K ρ H xs ys) (e : Z.atI xs i = some d) : ∃ v, atI ys i = some v ∧ RelD K ρ H d v := by
  unfold Z.atI at e
  cases ej : Z.ixN xs.length i with
  | none => rw [ej] at e; cases e
  | some j =>
    rw [ej] at e
    obtain ⟨v, e1, e2⟩ := r.get (i := j) e
    refine ⟨v, ?_, e2⟩
    unfold atI
    rw [← r.length]
    show (Z.ixN xs.length i).bind _ = _
    rw [ej]
    exact e1
theorem i_idx (hu : X.A.units + 200 < cLine) : IxR X (fun x y => rP X.K sub .idx [x, y]) := by
  intro value slice pins s σ H x y v u Q I rx ry ⟨ρ, h, ds, d, h', R, r, q, k⟩ hs
  obtain ⟨d1, d2, rfl, r1, r2⟩ := rel2' r
  change Z.pIdx _ _ = _ at q
  unfold Z.pIdx at q
  split at q
  · rename_i a i e; cases e
    cases e : Z.atI a i with
    | none => rw [e] at q; cases q
    | some c =>
      rw [e] at q; cases q
      simp only [RelD] at r1 r2
      obtain ⟨rfl, hl⟩ := r1
      subst r2
      refine ix_seq value slice pins s σ H _ _ v u Q I rx ry (.inr (.inr ⟨_, i, c, rfl, rfl, by rw [strLen, ← limE]; exact hl, e, k ρ H _ .refl R ?_⟩)) hs
      unfold RelD
      exact ⟨rfl, by show 1 ≤ 16777216; decide⟩
  · rename_i xs i e; cases e
    cases e : Z.atI xs i with
    | none => rw [e] at q; cases q
    | some c =>
      rw [e] at q; cases q
      simp only [RelD] at r1 r2
      obtain ⟨a, ys, rfl, hq, rs⟩ := r1
      subst r2
      obtain ⟨w, e1, e2⟩ := atI_rel rs e
      exact ix_seq value slice pins s σ H _ _ v u Q I rx ry (.inr (.inl ⟨a, ys, i, w, rfl, rfl, hq, e1, k ρ H _ .refl R e2⟩)) hs
  · rename_i xs i e; cases e
    cases e : Z.atI xs i with
    | none => rw [e] at q; cases q
    | some c =>
      rw [e] at q; cases q
      simp only [RelD] at r1 r2
      obtain ⟨a, ys, rfl, hq, rs⟩ := r1
      subst r2
      obtain ⟨w, e1, e2⟩ := atI_rel rs e
      exact ix_seq value slice pins s σ H _ _ v u Q I rx ry (.inl ⟨a, ys, i, w, rfl, rfl, hq.sqL, e1, k ρ H _ .refl R e2⟩) hs
  · rename_i n kd e; cases e
    split at q
    · rename_i kvs e1
      cases e : Z.kkOf d2 with
      | none => rw [e] at q; cases q
      | some kk =>
        rw [e] at q
        cases e' : Z.dGet kvs kk with
        | none => simp [e'] at q
        | some dv =>
          simp [e'] at q
          obtain ⟨rfl, rfl⟩ := q
          obtain ⟨a, kvs', rfl, _, hq, hk, rs, _⟩ := dctAt R r1 e1
          obtain ⟨rfl, _⟩ := kk_rel e r2
          cases rx
          have vr := val_rel (K := X.K) (ρ := ρ) (H := H) kk kvs kvs' hk rs
          rw [e'] at vr
          obtain ⟨w, ew, rw'⟩ := vr
          have g : DGet H a (kV (kOf kk)) (some w) := by rw [← ew]; exact DGet.k hq
          exact tail_any (dict_typeIs I g) PySem.F.slot_dict_getitem.lookup (d_getItem (by omega) I g ry fun w' s3 I3 rw'' => ⟨w, H, I3, rw'', k ρ H _ .refl R rw'⟩) hs
    · rename_i xs e1
      split at q
      · rename_i i
        cases e : Z.atI xs i with
        | none => rw [e] at q; cases q
        | some c =>
          rw [e] at q; cases q
          obtain ⟨a, ys, rfl, _, hq, rs⟩ := lstAt R r1 e1
          simp only [RelD] at r2
          subst r2
          obtain ⟨w, e1, e2⟩ := atI_rel rs e
          exact ix_seq value slice pins s σ H _ _ v u Q I rx ry (.inl ⟨a, ys, i, w, rfl, rfl, .of hq, e1, k ρ H _ .refl R e2⟩) hs
      · cases q
    · cases q
  · cases q
end
end ZS
set_option linter.all false
set_option maxRecDepth 100000
set_option maxHeartbeats 4000000
namespace ZS
open PySem PySem.Spec PyProof.Rows L2
variable [R0]
section
variable {X : Cx} {sub : Nat → Nat → Bool} {Γ : Z.Gam} {E : Z.PX}
theorem sIxE (n d : Nat) (o : Option Int) : HT.sIx n d o = Z.sIx n d o := by
  cases o with
  | none => rfl
  | some v =>
    unfold HT.sIx Z.sIx
    dsimp only
    split <;> omega
theorem srange_eq (a b : Nat) : sliceRange (a : Int) (b : Int) 1 = (List.range (b - a)).map fun m => a + m := by
  unfold sliceRange
  have e : (if (1 : Int) > 0 then (if (a : Int) < b then ((b : Int) - a + 1 - 1) / 1 else 0) else (if (a : Int) > b then ((a : Int) - b - 1 - 1) / (-1) else 0)).toNat = b - a := by
    rw [if_pos (by decide)]
    split
    · rw [Int.ediv_one]; omega
    · omega
  show List.map _ (List.range (Int.toNat _)) = _
  rw [e]
  apply List.map_congr_left
  intro m _
  omega
theorem idx_eq (lo hi : Option Int) (n : Nat) : Builtin.Str.strSliceIndices lo hi 1 n = (List.range (Z.sIx n n hi - Z.sIx n 0 lo)).map fun m => Z.sIx n 0 lo + m := by
  rw [← srange_eq]
  unfold Builtin.Str.strSliceIndices
  dsimp only
  congr 1
  · cases lo with
    | none => simp [Z.sIx]
    | some v =>
      simp only [Z.sIx]
      rw [if_pos (by decide)]
      split <;> omega
  · cases hi with
    | none => simp [Z.sIx]
    | some v =>
      simp only [Z.sIx]
      rw [if_pos (by decide)]
      split <;> omega
theorem pick_eq {α : Type} : ∀ (k i : Nat) (s : List α), ((List.range k).map fun m => i + m).filterMap (fun j => s[j]?) = (s.drop i).take k
  | 0, i, s => by simp
  | k + 1, i, s => by
    rw [List.range_succ, List.map_append, List.filterMap_append, pick_eq k i s, List.take_succ]
    congr 1
    simp only [List.map_cons, List.map_nil, List.filterMap_cons, List.filterMap_nil]
    rw [List.getElem?_drop]
    cases s[i + k]? <;> rfl
theorem cut_eq (s : List Nat) (lo hi : Option Int) : ((Builtin.Str.strSliceIndices lo hi 1 s.length).filterMap fun i => s[i]?) = Z.cut s lo hi := by
  rw [idx_eq, pick_eq]; rfl
theorem cut_le {α : Type} (s : List α) (lo hi : Option Int) : (Z.cut s lo hi).length ≤ s.length := by
  unfold Z.cut
  rw [List.length_take, List.length_drop]
  omega
theorem sIx_le (n d : Nat) (hd : d ≤ n) (o : Option Int) : Z.sIx n d o ≤ n := by
  rw [← sIxE]; exact HT.sIx_le n d hd o
theorem cut_full {α : Type} (s : List α) (lo hi : Option Int) (h : Z.sIx s.length s.length hi - Z.sIx s.length 0 lo = s.length) : Z.cut s lo hi = s := by
  have h1 := sIx_le s.length s.length (Nat.le_refl _) hi
  unfold Z.cut
  by_cases h0 : Z.sIx s.length 0 lo = 0
  · rw [h, h0, List.drop_zero, List.take_length]
  · have : s.length = 0 := by omega
    rw [List.length_eq_zero_iff.mp this]; simp
theorem sl_str : SlR X (fun x lo hi H Q => ∃ z : List Nat, x = .str ⟨z.toArray⟩ ∧ z.length ≤ Z.lim ∧ Q (.str ⟨(Z.cut z lo hi).toArray⟩) H) := by
  intro pins s σ H x v vl vu lo hi sl Q I rx hs pl pu h
  obtain ⟨z, rfl, hz, q⟩ := h
  obtain ⟨t, rfl⟩ := rx
  refine ⟨"str", _, F.slot_str_getitem.lookup, typeIs_str s _ t, ?_⟩
  obtain ⟨l', e1, e2⟩ : ∃ l' : Option (Int × Tok), vl = partValue l' ∧ l'.map (·.1) = lo := by
    cases pl with
    | none => exact ⟨none, rfl, rfl⟩
    | int i t => exact ⟨some (i, t), rfl, rfl⟩
  obtain ⟨u', e3, e4⟩ : ∃ l' : Option (Int × Tok), vu = partValue l' ∧ l'.map (·.1) = hi := by
    cases pu with
    | none => exact ⟨none, rfl, rfl⟩
    | int i t => exact ⟨some (i, t), rfl, rfl⟩
  subst e1 e3
  refine wpAny_getItem_str_slice (l := l') (u := u') (st := none) hs rfl ?_
  have hp : slicePicked ⟨z.toArray⟩ l' u' none = Builtin.Str.strSliceIndices lo hi 1 z.length := by
    unfold slicePicked
    rw [e2, e4, strLen]
    rfl
  have hc : ((slicePicked ⟨z.toArray⟩ l' u' none).filterMap ((⟨z.toArray⟩ : Str).cps[·]?)) = Z.cut z lo hi := by
    rw [hp, ← cut_eq]
    congr 1
    funext i
    simp
  unfold sliceMade
  split
  · rename_i hw
    have hl : (slicePicked ⟨z.toArray⟩ l' u' none).length = z.length := by
      rw [Bool.and_eq_true] at hw
      have := beq_iff_eq.mp hw.2
      rw [this, strLen]
    have hz : Z.cut z lo hi = z := by
      rw [hp, idx_eq, List.length_map, List.length_range] at hl
      exact cut_full z lo hi hl
    show EP X pins σ Q (.str ⟨z.toArray⟩ t) s
    exact ⟨.str ⟨z.toArray⟩, H, I, ⟨t, rfl⟩, by rw [hz] at q; exact q⟩
  · rw [hc]
    refine ⟨by rw [strLen, ← limE]; exact Nat.le_trans (cut_le z lo hi) hz, .str ⟨(Z.cut z lo hi).toArray⟩, H, I.tok _, ⟨_, rfl⟩, q⟩
noncomputable def rPs (K : PySem.W.Frag) (x : V) (lo hi : Option Int) (H : Hp) (Q : VK) : Prop := ∃ ρ h d e h', Rep K ρ h H ∧ RelD K ρ H d x ∧ Z.pSlice d lo hi h = some (e, h') ∧
  ∀ ρ' H' v, Ext K ρ H ρ' H' → Rep K ρ' h' H' → RelD K ρ' H' e v → Q v H'
theorem cut_rel {K : PySem.W.Frag} {ρ : List Addr} {H : Hp} {xs : List Z.D} {ys : List V} {lo hi : Option Int} (r : RelDs K ρ H xs ys) : RelDs K ρ H (Z.cut xs lo hi) (cutV ys lo hi) := by
  unfold Z.cut cutV
  rw [sIxE, sIxE, ← r.length]
  exact (r.drop _).take _
theorem sl_all : SlR X (rPs X.K) := SlRw (sl_str.or (sl_tup.or sl_list)) (by
  rintro x lo hi H Q ⟨ρ, h, d, e, h', R, r, q, k⟩
  unfold Z.pSlice at q
  split at q
  · cases q
    simp only [RelD] at r
    obtain ⟨rfl, hl⟩ := r
    refine .inl ⟨_, rfl, hl, k ρ H _ .refl R ?_⟩
    unfold RelD
    exact ⟨rfl, Nat.le_trans (cut_le _ lo hi) hl⟩
  · rename_i xs
    split at q
    · cases q
    · rename_i hw
      cases q
      simp only [RelD] at r
      obtain ⟨a, ys, rfl, hq, rs⟩ := r
      refine .inr (.inl ⟨a, ys, rfl, hq, by rw [← rs.length, sIxE, sIxE]; exact hw, fun p hp => ?_⟩)
      have e2 : Ext X.K ρ H ρ (upd H p (.tup (cutV ys lo hi))) := Ext.fresh hp
      exact k ρ _ _ e2 (R.fresh hp) (by simp only [RelD]; exact ⟨p, _, rfl, .of upd_same, RelDs.mono e2 _ _ (cut_rel rs)⟩)
  · obtain ⟨hl, rfl, rfl⟩ := newL_inv q
    simp only [RelD] at r
    obtain ⟨a, ys, rfl, hq, rs⟩ := r
    refine .inr (.inr ⟨a, ys, rfl, hq.sqL, fun p hp => ?_⟩)
    obtain ⟨e2, R2, r2⟩ := new_list R (cut_rel rs) hp
    exact k _ _ _ e2 R2 r2
  · split at q
    · rename_i e1
      obtain ⟨hl, rfl, rfl⟩ := newL_inv q
      obtain ⟨a, ys, rfl, _, hq, rs⟩ := lstAt R r e1
      refine .inr (.inr ⟨a, ys, rfl, .of hq, fun p hp => ?_⟩)
      obtain ⟨e2, R2, r2⟩ := new_list R (cut_rel rs) hp
      exact k _ _ _ e2 R2 r2
    · cases q
  · cases q)
theorem le_slL {a b : Expr} {a' b' : Z.Ex} {p pos : Pos} (ha : LE X sub Γ E a a') (hb : LE X sub Γ E b b') : LE X sub Γ E (.Subscript a (.Slice (some b) none none p) pos) (.prim .slL (.cons a' (.cons b' .nil))) := by
  refine PEw (pe_slice sl_all ha (po_some hb) po_none) ?_
  rintro σ H Q ⟨ρ, h, τ, Q', R, L, w, k⟩
  simp only [Z.wpE, Z.wpEs] at w
  refine ⟨ρ, h, τ, _, R, L, w, fun d1 h1 ρ1 H1 x e1 R1 r1 w1 => ⟨ρ1, h1, τ, _, R1, L.mono e1, w1, fun d2 h2 ρ2 H2 y e2 R2 r2 w2 => ?_⟩⟩
  cases d2 with
  | int i =>
    simp only [RelD] at r2
    refine ⟨i, r2, ?_⟩
    change (match Z.pSlice d1 (some i) none h2 with | some (v, h2) => Q' v h2 | none => False) at w2
    cases q : Z.pSlice d1 (some i) none h2 with
    | none => rw [q] at w2; exact w2.elim
    | some z => rw [q] at w2; exact ⟨ρ2, h2, d1, z.1, z.2, R2, RelD.mono e2 _ _ r1, q, fun ρ' H' v e' R' r' => k _ _ ρ' H' v (e1.trans (e2.trans e')) R' r' w2⟩
  | _ => exact w2.elim
theorem le_slH {a b : Expr} {a' b' : Z.Ex} {p pos : Pos} (ha : LE X sub Γ E a a') (hb : LE X sub Γ E b b') : LE X sub Γ E (.Subscript a (.Slice none (some b) none p) pos) (.prim .slH (.cons a' (.cons b' .nil))) := by
  refine PEw (pe_slice sl_all ha po_none (po_some hb)) ?_
  rintro σ H Q ⟨ρ, h, τ, Q', R, L, w, k⟩
  simp only [Z.wpE, Z.wpEs] at w
  refine ⟨ρ, h, τ, _, R, L, w, fun d1 h1 ρ1 H1 x e1 R1 r1 w1 => ⟨ρ1, h1, τ, _, R1, L.mono e1, w1, fun d2 h2 ρ2 H2 y e2 R2 r2 w2 => ?_⟩⟩
  cases d2 with
  | int i =>
    simp only [RelD] at r2
    refine ⟨i, r2, ?_⟩
    change (match Z.pSlice d1 none (some i) h2 with | some (v, h2) => Q' v h2 | none => False) at w2
    cases q : Z.pSlice d1 none (some i) h2 with
    | none => rw [q] at w2; exact w2.elim
    | some z => rw [q] at w2; exact ⟨ρ2, h2, d1, z.1, z.2, R2, RelD.mono e2 _ _ r1, q, fun ρ' H' v e' R' r' => k _ _ ρ' H' v (e1.trans (e2.trans e')) R' r' w2⟩
  | _ => exact w2.elim
end
end ZS
set_option linter.all false
set_option maxRecDepth 100000
set_option maxHeartbeats 4000000
namespace ZS
open PySem PySem.Spec PyProof.Rows L2
variable [R0]
section
variable {X : Cx} {sub : Nat → Nat → Bool} {Γ : Z.Gam} {E : Z.PX}
theorem c_len : CallR X (.builtin "len") (rP X.K sub .len) := CallRw (call_len.or call_lenD) (by
  rintro xs H Q ⟨ρ, h, ds, d, h', R, r, q, k⟩
  change Z.pLen _ _ = _ at q
  unfold Z.pLen at q
  split at q
  · cases q
    obtain ⟨x, xs, rfl⟩ : ∃ x t, xs = x :: t := by simp only [RelDs] at r; obtain ⟨y, t, e, _⟩ := r; exact ⟨y, t, e⟩
    simp only [RelDs] at r
    obtain ⟨y, t, e, r, rfl⟩ := r
    cases e
    simp only [RelD] at r
    obtain ⟨rfl, hl⟩ := r
    exact .inl ⟨_, _, rfl, ⟨by rw [strLen, ← limE]; exact hl, rfl⟩, by rw [strLen]; exact k ρ H _ .refl R (by simp only [RelD])⟩
  · cases q
    simp only [RelDs] at r
    obtain ⟨y, t, rfl, r, rfl⟩ := r
    simp only [RelD] at r
    obtain ⟨a, ys, rfl, hq, rs⟩ := r
    exact .inl ⟨_, _, rfl, .inr ⟨ys, hq, rfl⟩, by rw [← rs.length]; exact k ρ H _ .refl R (by simp only [RelD])⟩
  · cases q
    simp only [RelDs] at r
    obtain ⟨y, t, rfl, r, rfl⟩ := r
    simp only [RelD] at r
    obtain ⟨a, ys, rfl, hq, rs⟩ := r
    exact .inl ⟨_, _, rfl, .inl ⟨ys, hq.sqL, rfl⟩, by rw [← rs.length]; exact k ρ H _ .refl R (by simp only [RelD])⟩
  · rename_i n
    simp only [RelDs] at r
    obtain ⟨y, t, rfl, r, rfl⟩ := r
    split at q
    · rename_i e1
      cases q
      obtain ⟨a, ys, rfl, _, hq, rs⟩ := lstAt R r e1
      exact .inl ⟨_, _, rfl, .inl ⟨ys, .of hq, rfl⟩, by rw [← rs.length]; exact k ρ H _ .refl R (by simp only [RelD])⟩
    · rename_i e1
      cases q
      obtain ⟨a, kvs, rfl, _, hq, hk, rs, _⟩ := dctAt R r e1
      have := rs.length
      rw [List.length_map, List.length_map] at this
      exact .inr ⟨_, _, rfl, hq, by rw [← this]; exact k ρ H _ .refl R (by simp only [RelD])⟩
    · cases q
  · cases q)
theorem c_tuple : CallR X (.type "tuple") (rP X.K sub .tuple_) := CallRw call_tuple_of (by
  rintro xs H Q ⟨ρ, h, ds, d, h', R, r, q, k⟩
  change Z.pTuple _ _ = _ at q
  unfold Z.pTuple at q
  split at q
  · rename_i d1
    simp only [RelDs] at r
    obtain ⟨y, t, rfl, r, rfl⟩ := r
    cases e : Z.seqOf h d1 with
    | none => rw [e] at q; cases q
    | some zs =>
      rw [e] at q
      cases q
      have fin : ∀ (ys : List V), RelDs X.K ρ H zs ys → ∀ l, H l = none → Q (.ref l) (upd H l (.tup ys)) := fun ys rs l hl => by
        have e2 : Ext X.K ρ H ρ (upd H l (.tup ys)) := Ext.fresh hl
        exact k ρ _ _ e2 (R.fresh hl) (by simp only [RelD]; exact ⟨l, _, rfl, .of upd_same, RelDs.mono e2 _ _ rs⟩)
      cases d1 with
      | tup ws =>
        cases e
        have r' := r
        simp only [RelD] at r
        obtain ⟨a, ys, rfl, hq, rs⟩ := r
        exact ⟨a, ys, rfl, .inr ⟨hq, k ρ H _ .refl R r'⟩⟩
      | rol ws =>
        cases e
        simp only [RelD] at r
        obtain ⟨a, ys, rfl, hq, rs⟩ := r
        exact ⟨a, ys, rfl, .inl ⟨hq.sqL, fin ys rs⟩⟩
      | ref n =>
        simp only [Z.seqOf] at e
        split at e
        · rename_i e1
          cases e
          obtain ⟨a, ys, rfl, _, hq, rs⟩ := lstAt R r e1
          exact ⟨a, ys, rfl, .inl ⟨.of hq, fin ys rs⟩⟩
        · cases e
      | _ => cases e
  · cases q)
theorem m_append : MtR X "list.append" (fun x xs => rP X.K sub .append (x :: xs)) := MtRw mt_append (by
  rintro x xs H Q ⟨ρ, h, ds, d, h', R, r, q, k⟩
  change Z.pApp _ _ = _ at q
  unfold Z.pApp at q
  split at q
  · split at q
    · rename_i e1
      simp only [RelDs] at r
      obtain ⟨_, _, e, r1, y, _, rfl, r2, rfl⟩ := r
      cases e
      obtain ⟨a, ys, rfl, hn, ha, rs⟩ := lstAt R r1 e1
      obtain ⟨hl, rfl, rfl⟩ := setL_inv q
      rw [List.length_append, List.length_singleton] at hl
      obtain ⟨e2, R2⟩ := set_list' (xs := []) R hn ha (rs.append (.one r2))
      exact ⟨a, ys, y, rfl, rfl, ha, by rw [← rs.length, ← limE]; omega, k _ _ _ e2 R2 (by simp only [RelD])⟩
    · cases q
  · cases q)
open AutoSeq1 in
end
end ZS
set_option linter.all false
set_option maxRecDepth 100000
set_option maxHeartbeats 4000000
namespace ZS
open PySem PySem.Spec PyProof.Rows L2
variable [R0]
section
variable {X : Cx} {sub : Nat → Nat → Bool} {Γ : Z.Gam} {E : Z.PX}
noncomputable def KNn : Z.KN → String
  | .int => "int" | .bool => "bool" | .str => "str" | .list => "list" | .tuple => "tuple" | .cls _ => "?"
noncomputable def KNb : Z.KN → String → Bool
  | .int, "int" => true | .int, "bool" => true | .bool, "bool" => true | .str, "str" => true | .list, "list" => true | .tuple, "tuple" => true | _, _ => false
theorem kitB {K : PySem.W.Frag} (k : Z.KN) (hk : ∀ c, k ≠ .cls c) (t : String) (ht : t ∈ ["NoneType", "bool", "int", "str", "list", "tuple", "dict"]) : PySem.W.kitOne K (.type t) (.type (KNn k)) = some (KNb k t) := by
  simp only [List.mem_cons, List.not_mem_nil, or_false] at ht
  cases k with
  | cls c => exact absurd rfl (hk c)
  | _ => rcases ht with rfl | rfl | rfl | rfl | rfl | rfl | rfl <;> kernel_rfl
theorem c_isi (k : Z.KN) (hk : ∀ c, k ≠ .cls c) : CallR X (.builtin "isinstance") (fun xs H Q => ∃ x, xs = [x, .ty (KNn k)] ∧ rP X.K sub (.isi k) [x] H Q) := by
  intro pins s σ H xs us Q I r ⟨x, e, ρ, h, ds, d, h', R, rr, q, kk⟩
  subst e
  obtain ⟨u, w', rfl, rx, rt⟩ := vals2 r
  cases (show w' = Value.type (KNn k) from rt)
  obtain ⟨d1, rfl, r1⟩ := rel1' rr
  change Z.pIsi sub k [d1] h = some (d, h') at q
  unfold Z.pIsi at q
  cases e : Z.isiB h sub k d1 with
  | none => simp only [e] at q; cases q
  | some b =>
    simp only [e] at q
    cases q
    have fin : ∀ tk, EP X pins σ Q (.bool b) { s with toks := tk } := fun tk => ⟨.bl b, H, I.tok _, rfl, kk ρ H _ .refl R (by simp only [RelD])⟩
    cases d1 with
    | non =>
      simp only [RelD] at r1; subst r1; cases rx
      have hb : b = KNb k "NoneType" := by cases k <;> first | (simp [Z.isiB] at e; subst e; rfl) | exact absurd rfl (hk _)
      exact PySem.W.kia_one PySem.W.kitx_none I.kIn True.intro (hb ▸ kitB k hk "NoneType" (by simp)) (fun z => nomatch z) fin
    | bl c =>
      simp only [RelD] at r1; subst r1; cases rx
      have hb : b = KNb k "bool" := by cases k <;> first | (simp [Z.isiB] at e; subst e; rfl) | exact absurd rfl (hk _)
      exact PySem.W.kia_one PySem.W.kitx_bool I.kIn True.intro (hb ▸ kitB k hk "bool" (by simp)) (fun z => nomatch z) fin
    | int i =>
      simp only [RelD] at r1; subst r1; obtain ⟨t, rfl⟩ := rx
      have hb : b = KNb k "int" := by cases k <;> first | (simp [Z.isiB] at e; subst e; rfl) | exact absurd rfl (hk _)
      exact PySem.W.kia_one PySem.W.kitx_int I.kIn True.intro (hb ▸ kitB k hk "int" (by simp)) (fun z => nomatch z) fin
    | str i =>
      simp only [RelD] at r1; obtain ⟨rfl, _⟩ := r1; obtain ⟨t, rfl⟩ := rx
      have hb : b = KNb k "str" := by cases k <;> first | (simp [Z.isiB] at e; subst e; rfl) | exact absurd rfl (hk _)
      exact PySem.W.kia_one PySem.W.kitx_str I.kIn True.intro (hb ▸ kitB k hk "str" (by simp)) (fun z => nomatch z) fin
    | tup xs =>
      simp only [RelD] at r1; obtain ⟨a, ys, rfl, hq, _⟩ := r1; cases rx
      obtain ⟨its, _, ⟨o, h1, h2, _⟩, _⟩ := I.tuple hq
      have hb : b = KNb k "tuple" := by cases k <;> first | (simp [Z.isiB] at e; subst e; rfl) | exact absurd rfl (hk _)
      exact PySem.W.kia_one PySem.W.kitx_tuple I.kIn ⟨o, h1, h2⟩ (hb ▸ kitB k hk "tuple" (by simp)) (fun z => nomatch z) fin
    | rol xs =>
      simp only [RelD] at r1; obtain ⟨a, ys, rfl, hq, _⟩ := r1; cases rx
      obtain ⟨its, _, ⟨o, n, h1, h2, _⟩, _⟩ := I.list hq.sqL
      have hb : b = KNb k "list" := by cases k <;> first | (simp [Z.isiB] at e; subst e; rfl) | exact absurd rfl (hk _)
      exact PySem.W.kia_one PySem.W.kitx_list I.kIn ⟨o, h1, h2⟩ (hb ▸ kitB k hk "list" (by simp)) (fun z => nomatch z) fin
    | ref n =>
      cases eo : h[n]? with
      | none => cases k <;> first | (simp [Z.isiB, eo] at e; done) | exact absurd rfl (hk _)
      | some o =>
        cases o with
        | lst xs =>
          obtain ⟨a, ys, rfl, _, ha, _⟩ := lstAt R r1 eo
          cases rx
          obtain ⟨its, _, ⟨o, n, h1, h2, _⟩, _⟩ := I.list (.of ha)
          have hb : b = KNb k "list" := by cases k <;> first | (simp [Z.isiB, eo] at e; subst e; rfl) | exact absurd rfl (hk _)
          exact PySem.W.kia_one PySem.W.kitx_list I.kIn ⟨o, h1, h2⟩ (hb ▸ kitB k hk "list" (by simp)) (fun z => nomatch z) fin
        | dct xs =>
          obtain ⟨a, ys, rfl, _, ha, _⟩ := dctAt R r1 eo
          cases rx
          obtain ⟨_, _, vs, _, p⟩ := (show ObjOk X.prog X.w H s.heap a (.dK ys) from I.hok a _ ha)
          obtain ⟨o, es, ep, h1, h2, _⟩ := p
          have hb : b = KNb k "dict" := by cases k <;> first | (simp [Z.isiB, eo] at e; subst e; rfl) | exact absurd rfl (hk _)
          exact PySem.W.kia_one PySem.W.kitx_dict I.kIn ⟨o, h1, h2.1⟩ (hb ▸ kitB k hk "dict" (by simp)) (fun z => nomatch z) fin
        | obj c fs =>
          cases k <;> first | (simp [Z.isiB, eo] at e; done) | exact absurd rfl (hk _)
        | exc c =>
          cases k <;> first | (simp [Z.isiB, eo] at e; done) | exact absurd rfl (hk _)
theorem le_isi {e : Expr} {e' : Z.Ex} {k : Z.KN} {tn : Str} {p p2 pos : Pos} (hk : ∀ c, k ≠ .cls c) (hg : Gl X "isinstance") (hm : X.mg "isinstance" = none) (hgt : Gl X tn) (hmt : X.mg tn = none) (hvt : bootBuiltins tn = some (.type (KNn k))) (hnn : tn ≠ "__name__") (hdd : (tn == ("__debug__" : Str)) = false)
    (he : LE X sub Γ E e e') (hs : ∀ es, starEach (e :: es) X.env = (false, eval e X.env) :: starEach es X.env) :
    LE X sub Γ E (.Call (.Name "isinstance" p) [e, .Name tn p2] [] pos) (.prim (.isi k) (.cons e' .nil)) := by
  have hn : PE X (.Name tn p2) (tC (.ty (KNn k))) := pe_bltn hgt hmt hvt rfl hnn hdd
  refine PEw (pe_callB (c_isi (sub := sub) k hk) hg hm (by rfl) (pa_cons he (pa_cons hn pa_nil (by rfl)) (hs _)) (by decide) (by decide) (hs _) (by rfl)) ?_
  rintro σ H Q ⟨ρ, h, τ, Q', R, L, w, k'⟩
  simp only [Z.wpE, Z.wpEs] at w
  refine ⟨ρ, h, τ, _, R, L, w, fun d1 h1 ρ1 H1 x e1 R1 r1 w1 => ?_⟩
  cases q : Z.prim sub (.isi k) [d1] h1 with
  | none => rw [q] at w1; exact w1.elim
  | some z =>
    rw [q] at w1
    exact ⟨x, rfl, ρ1, h1, [d1], z.1, z.2, R1, .one r1, q, fun ρ' H' v e' R' r' => k' _ _ ρ' H' v (e1.trans e') R' r' w1⟩
noncomputable def spUp (K : PySem.W.Frag) (Γ : Z.Gam) (f : Nat) : Sp := fun vs H Q _ => ∃ ρ h ds Q', ∃ E' : Z.PX, Rep K ρ h H ∧ RelDs K ρ H ds vs ∧ Γ f ds h Q' (Z.EF E') ∧
  ∀ d h' ρ' H' v, Ext K ρ H ρ' H' → Rep K ρ' h' H' → RelD K ρ' H' d v → Q' d h' → Q v H'
theorem le_call {CX : CXT} {k i : Nat} {f : Addr} {fd : FuncData} {ps : List Str} {x : Str} {e : Expr} {es : List Expr} {es' : Z.Exs} {dvs : List V} {ds : List Value} {dd : List Z.D} {p pos : Pos} {E0 : XK}
    (F : FnOk X.prog X.w X.K X.mg X.base CX k f fd ps (spUp X.K Γ i)) (hr : Room k X.A) (hg : Gl X x) (hm : X.mg x = some (.ref f)) (hk : PySem.W.keepIn X.K (.ref f) = true) (hb : Binds X.K fd ps ds) (hd : Vals dvs ds) (hx : Passes CX X E0) (hdd : ∀ ρ H, RelDs X.K ρ H dd dvs)
    (ha : LA X sub Γ E (e :: es) es') (hdb : (x == ("__debug__" : Str)) = false) (he : starEach (e :: es) X.env = (false, eval e X.env) :: starEach es X.env) (hpl : (backTo pos (starEach es X.env)).any (·.1) = false) :
    LE X sub Γ E (.Call (.Name x p) (e :: es) [] pos) (.call i es' dd) := by
  refine PEw (pe_call F hr hg hm hk hb hd hx ha hdb he hpl) ?_
  rintro σ H Q ⟨ρ, h, τ, Q', R, L, w, k'⟩
  simp only [Z.wpE] at w
  refine ⟨ρ, h, τ, _, R, L, w, fun ds1 h1 ρ1 H1 vs e1 R1 r1 w1 => ?_⟩
  exact ⟨ρ1, h1, ds1 ++ dd, Q', E, R1, r1.append (hdd _ _), w1, fun d h' ρ' H' v e' R' r' q => k' d h' ρ' H' v (e1.trans e') R' r' q⟩
end
theorem sLt_eq : ∀ a b : List Nat, Z.sLt a b = decide (a < b)
  | [], [] => by simp [Z.sLt]
  | [], _ :: _ => by simp [Z.sLt]
  | _ :: _, [] => by simp [Z.sLt]
  | x :: xs, y :: ys => by
    simp only [Z.sLt]
    by_cases e : x = y
    · subst e
      rw [if_pos rfl, sLt_eq xs ys]
      simp [List.cons_lt_cons_iff]
    · rw [if_neg e]
      simp [List.cons_lt_cons_iff, e]
end ZS
set_option linter.all false
set_option maxRecDepth 100000
set_option maxHeartbeats 4000000
namespace ZS
open PySem PySem.Spec PyProof.Rows L2
variable [R0]
section
variable {X : Cx} {sub : Nat → Nat → Bool}
theorem rising_pair : ∀ (p : Str) (l : List Str), risingS p l = true → (p :: l).Pairwise fun a b => Z.nd a.cps.toList b.cps.toList
  | p, [], _ => by simp
  | p, x :: r, h => by
    unfold risingS at h
    rw [Bool.and_eq_true] at h
    have ih := rising_pair x r h.2
    have h1 : Z.nd p.cps.toList x.cps.toList := by
      intro z
      have := h.1
      rw [ltCps_eq, decide_eq_true z] at this
      exact absurd this (by decide)
    refine List.pairwise_cons.mpr ⟨fun y hy => ?_, ih⟩
    rcases List.mem_cons.mp hy with rfl | hy
    · exact h1
    · exact Z.nd_trans h1 ((List.pairwise_cons.mp ih).1 y hy)
theorem sortedS_pair (l : List Str) (h : sortedS l = true) : l.Pairwise fun a b => Z.nd a.cps.toList b.cps.toList := by
  cases l with
  | nil => exact .nil
  | cons x r => exact rising_pair x r h
theorem strs_rel {K : PySem.W.Frag} {ρ : List Addr} {H : Hp} : ∀ {xs : List Z.D} {ys : List V} {its : List Value} {ss : List Z.S}, RelDs K ρ H xs ys → Vals ys its → Z.strsOf xs = some ss → StrsAre its (ss.map fun s => ⟨s.toArray⟩) ∧ ∀ s ∈ ss, s.length ≤ Z.lim
  | [], ys, its, ss, r, v, e => by
    simp only [RelDs] at r; subst r; cases v; cases e
    exact ⟨.nil, fun s hs => by simp at hs⟩
  | x :: xs, ys, its, ss, r, v, e => by
    simp only [RelDs] at r
    obtain ⟨y, t, rfl, r1, r2⟩ := r
    cases v with
    | cons v1 v2 =>
      cases x <;> simp only [Z.strsOf] at e <;> first | (cases e; done) | skip
      rename_i s
      cases e' : Z.strsOf xs with
      | none => rw [e'] at e; cases e
      | some ss' =>
        rw [e'] at e; cases e
        simp only [RelD] at r1
        obtain ⟨rfl, hl⟩ := r1
        obtain ⟨tk, rfl⟩ := v1
        obtain ⟨i1, i2⟩ := strs_rel r2 v2 e'
        exact ⟨.cons _ _ i1, fun z hz => by
          rcases List.mem_cons.mp hz with rfl | hz
          · exact hl
          · exact i2 z hz⟩
theorem strsOf_length : ∀ {xs : List Z.D} {ss : List Z.S}, Z.strsOf xs = some ss → xs.length = ss.length
  | [], ss, e => by cases e; rfl
  | x :: xs, ss, e => by
    cases x <;> simp only [Z.strsOf] at e <;> first | (cases e; done) | skip
    cases e' : Z.strsOf xs with
    | none => rw [e'] at e; cases e
    | some ss' => rw [e'] at e; cases e; simp [strsOf_length e']
theorem StrsAre.vals : ∀ {us : List Value} {ss : List Str}, StrsAre us ss → Vals (ss.map V.str) us
  | _, _, .nil => .nil
  | _, _, .cons y t h => .cons ⟨t, rfl⟩ (StrsAre.vals h)
theorem rel_strs {K : PySem.W.Frag} {ρ : List Addr} {H : Hp} : ∀ {ss : List Z.S}, (∀ s ∈ ss, s.length ≤ Z.lim) → RelDs K ρ H (ss.map Z.D.str) (ss.map fun s => V.str ⟨s.toArray⟩)
  | [], _ => by simp [RelDs]
  | s :: ss, h => by
    simp only [List.map_cons, RelDs]
    exact ⟨_, _, rfl, by unfold RelD; exact ⟨rfl, h s List.mem_cons_self⟩, rel_strs fun z hz => h z (List.mem_cons_of_mem _ hz)⟩
theorem sorted_same {ss : List Z.S} {ss' : List Str} (hp : ss'.Perm (ss.map fun s => (⟨s.toArray⟩ : Str))) (hs : sortedS ss' = true) : ss' = (Z.sortS ss).map fun s => (⟨s.toArray⟩ : Str) := by
  have e1 : ss'.map (fun x => x.cps.toList) = Z.sortS ss := by
    apply Z.sortS_eq
    · have := hp.map (fun x => x.cps.toList)
      rw [List.map_map] at this
      have e : (ss.map ((fun x => x.cps.toList) ∘ fun s => (⟨s.toArray⟩ : Str))) = ss := by
        conv => rhs; rw [← List.map_id ss]
        apply List.map_congr_left
        intro a _
        simp
      rw [e] at this
      exact this
    · exact List.pairwise_map.mpr (sortedS_pair ss' hs)
  rw [← e1, List.map_map]
  conv => lhs; rw [← List.map_id ss']
  apply List.map_congr_left
  intro a _
  simp
theorem sort_fin {pins : List (Addr × Obj)} {σ : L2.St} {H : Hp} {s : Shared} {ρ : List Addr} {h : Z.AH} {Q : VK} {ss : List Z.S} (I : Inv X pins σ H s) (R : Rep X.K ρ h H) (hlim : ∀ s ∈ ss, s.length ≤ Z.lim) (h64 : ss.length < 64)
    (k : ∀ ρ' H' v, Ext X.K ρ H ρ' H' → Rep X.K ρ' (h ++ [.lst ((Z.sortS ss).map .str)]) H' → RelD X.K ρ' H' (.ref h.length) v → Q v H') {out : Array Value} {ss' : List Str} (a1 : StrsAre out.toList ss') (a2 : ss'.Perm (ss.map fun s => (⟨s.toArray⟩ : Str))) (a3 : sortedS ss' = true)
    {B : Addr} {h' : Heap} {tk ep : Nat} (hk : ∀ b o, s.heap.get? b = some o → h'.get? b = some o) (hB : s.heap.objs.size ≤ B) (he : h'.get? B = some { cls := .type "list", data := .seq out ep }) : EP X pins σ Q (.ref B) { s with heap := h', toks := tk } := by
  have es := sorted_same a2 a3
  subst es
  have hv := StrsAre.vals a1
  have hlen := hv.length
  rw [List.length_map, List.length_map] at hlen
  have hp : H B = none := I.hok.fresh hB
  have hsz : (Z.sortS ss).length ≤ sizeLine := by rw [(Z.sortS_perm ss).length_eq, sizeLine_eq]; omega
  rw [List.map_map] at hv
  have rr : RelDs X.K ρ H ((Z.sortS ss).map .str) ((Z.sortS ss).map fun s => V.str ⟨s.toArray⟩) := rel_strs fun z hz => hlim z ((Z.sortS_perm ss).mem_iff.mp hz)
  obtain ⟨e2, R2, r2⟩ := new_list R rr hp
  refine ⟨.ref B, _, I.laid (t' := tk) (o := .lst ((Z.sortS ss).map fun s => V.str ⟨s.toArray⟩)) hk hB ?_, rfl, k _ _ _ e2 R2 r2⟩
  exact ⟨by rw [List.length_map]; exact hsz, out.toList, ep, hv, by simpa using he⟩
theorem strs_mem : ∀ (kvs : List (Z.KK × Z.D)) (ss : List Z.S), Z.strsOf (kvs.map fun kv => Z.kkD kv.1) = some ss → ∀ s ∈ ss, ∃ p ∈ kvs, p.1 = Sum.inr s
  | [], ss, e, s, hs => by cases e; simp at hs
  | (.inl i, d) :: kvs, ss, e, s, hs => by simp only [List.map_cons, Z.kkD, Z.strsOf] at e; cases e
  | (.inr x, d) :: kvs, ss, e, s, hs => by
    change (Z.strsOf (kvs.map fun kv => Z.kkD kv.1)).map (x :: ·) = some ss at e
    cases e' : Z.strsOf (kvs.map fun kv => Z.kkD kv.1) with
    | none => rw [e'] at e; cases e
    | some ss' =>
      rw [e'] at e; cases e
      rcases List.mem_cons.mp hs with rfl | hs
      · exact ⟨_, List.mem_cons_self, rfl⟩
      · obtain ⟨p, hp, e2⟩ := strs_mem kvs ss' e' s hs
        exact ⟨p, List.mem_cons_of_mem _ hp, e2⟩
theorem dict_strs {P : Program} {w : World} : ∀ (kvs : List (Z.KK × Z.D)) (kvs' : List (Key × V)) (vs : List (Key × Value)) (ss : List Z.S) (acc : List Value), kvs'.map (·.1) = kvs.map (fun p => kOf p.1) → KV kvs' vs → Z.strsOf (kvs.map fun kv => Z.kkD kv.1) = some ss →
    acc.length = vs.length → (∀ (j : Nat) (v : Value), acc[j]? = some v → ∃ k x, vs[j]? = some (k, x) ∧ (mixKind P w).is k v = true) → StrsAre acc (ss.map fun s => ⟨s.toArray⟩)
  | [], kvs', vs, ss, acc, hk, rel, e, hl, ha => by
    cases kvs' with
    | cons _ _ => cases hk
    | nil =>
      cases rel
      cases acc with
      | cons _ _ => cases hl
      | nil => cases e; exact .nil
  | (k1, d1) :: kvs, kvs', vs, ss, acc, hk, rel, e, hl, ha => by
    cases kvs' with
    | nil => cases hk
    | cons p kvs' =>
      simp only [List.map_cons, List.cons.injEq] at hk
      obtain ⟨hk1, hk⟩ := hk
      cases rel with
      | cons r1 r2 =>
        rename_i q vs
        cases acc with
        | nil => cases hl
        | cons u acc =>
          cases k1 with
          | inl i => simp only [List.map_cons, Z.kkD, Z.strsOf] at e; cases e
          | inr x =>
            change (Z.strsOf (kvs.map fun kv => Z.kkD kv.1)).map (x :: ·) = some ss at e
            cases e' : Z.strsOf (kvs.map fun kv => Z.kkD kv.1) with
            | none => rw [e'] at e; cases e
            | some ss' =>
              rw [e'] at e; cases e
              obtain ⟨k, y, ek, hy⟩ := ha 0 u rfl
              simp at ek
              subst ek
              have hq : k = Sum.inr ⟨x.toArray⟩ := r1.1.symm.trans hk1
              subst hq
              obtain ⟨t, rfl⟩ : ∃ t, u = Value.str ⟨x.toArray⟩ t := Value.isStrOf_shape hy
              exact .cons _ _ (dict_strs (P := P) (w := w) kvs kvs' vs ss' acc hk r2 e' (by simpa using hl) fun j v hj => ha (j + 1) v (by simpa using hj))
theorem gather_dict {M : Program} {ww : World} {AA : Around} {EE : Value → Shared → Prop} {st : Shared} {dd : Addr} {prs : List (Key × Value)} {epo : Nat} {Rs : List Value → Shared → Prop} (quiet : AA.handled = none) (notSys : (dd == sysModules) = false)
    (isD : st.heap.DictAt (mixKind M ww) dd prs epo) (few : prs.length ≤ sizeLine)
    (fin : ∀ (hp : Heap) (tok : Nat) (got : Array Value), (∀ b o, st.heap.get? b = some o → hp.get? b = some o) → st.heap.objs.size ≤ hp.objs.size → ItemsOf (fun i v => ∃ k x, prs[i]? = some (k, x) ∧ (mixKind M ww).is k v = true) got prs.length → Rs got.toList { st with heap := hp, toks := tok }) :
    wpAny (model M ww) AA (collect (.ref dd)) Rs EE st := by
  have src := PySem.W.kdl_dict (prog := M) (w := ww) (knd := mixKind M ww) (kvs := prs) (ep := epo) notSys
  have below := src.there _ isD
  unfold collect
  refine wpAny_bind (wpAny_runValue (codeAny_builtin entry_proto_collect' ?_))
  rw [Around.under_plainId PySem.F.plain_proto_collect _]
  show wpAny _ AA.in1 (newList [] >>= fun z => again (.builtin "list.__iadd__" ⟨[z, .ref dd], []⟩)) _ _ st
  refine wpAny_bind (wpAny_newObj_type (wpAny_pure ⟨plainId_quiet PySem.F.plain_list_iadd _, codeAny_builtin entry_list_iadd' ?_⟩))
  rw [Around.under_plainId PySem.F.plain_list_iadd _]
  show wpAny _ AA.in1 (Builtin.List.listExtendWith (.ref st.heap.objs.size) (.ref dd) (.ref st.heap.objs.size)) _ _ _
  have laid : (st.heap.push { cls := .type "list", data := .seq ([] : List Value).toArray }).get? st.heap.objs.size = some { cls := .type "list", data := .seq #[] } := Heap.get?_push_size _ rfl
  have run := PySem.W.kdl_extend (A := AA) (s := { st with heap := st.heap.push { cls := .type "list", data := .seq ([] : List Value).toArray } })
    (R := fun (ans : Result) (st' : Shared) => ∃ (hp : Heap) (tok : Nat) (got : Array Value) (c : Nat), ans = .ok (.ret (.ref st.heap.objs.size)) ∧ st' = { st with heap := hp, toks := tok } ∧
      (∀ b o, st.heap.get? b = some o → hp.get? b = some o) ∧ hp.get? st.heap.objs.size = some { cls := .type "list", dict := none, data := .seq got c, slots := #[] } ∧ ItemsOf (fun i v => ∃ k x, prs[i]? = some (k, x) ∧ (mixKind M ww).is k v = true) got prs.length)
    src quiet (src.keep _ _ isD fun b _ o q => Heap.get?_push_of_some _ q) st.heap.objs.size (Nat.ne_of_gt below.1) (Nat.ne_of_gt below.2) (.ref st.heap.objs.size) 0 laid
    (fun hp tok got c kp at' its => ⟨hp, tok, got, c, rfl, rfl, fun b o q => kp b o (Nat.ne_of_lt (Heap.lt_size q)) (Heap.get?_push_of_some _ q), at', its⟩) few
  have last : ∀ (hp : Heap) (tok : Nat) (got : Array Value) (c : Nat), (∀ b o, st.heap.get? b = some o → hp.get? b = some o) → hp.get? st.heap.objs.size = some { cls := .type "list", dict := none, data := .seq got c, slots := #[] } →
      ItemsOf (fun i v => ∃ k x, prs[i]? = some (k, x) ∧ (mixKind M ww).is k v = true) got prs.length → Rs got.toList { st with heap := hp, toks := tok } := fun hp tok got c kp at' its => fin hp tok got kp (Nat.le_of_lt (Heap.lt_size at')) its
  refine wpAny_mono run (fun how st' q => ?_) fun err st' q => ?_
  · cases how with
    | done fl =>
      obtain ⟨hp, tok, got, c, q1, rfl, kp, at', its⟩ := q
      cases q1
      show wpAny _ AA (load st.heap.objs.size >>= _) _ _ _
      exact wpAny_bind (wpAny_load at' (wpAny_pure (last hp tok got c kp at' its)))
    | again cd =>
      refine ⟨q.1, codeAny_mono q.2 fun ans st2 q2 => ?_⟩
      obtain ⟨hp, tok, got, c, rfl, rfl, kp, at', its⟩ := q2
      show wpAny _ AA (load st.heap.objs.size >>= _) _ _ _
      exact wpAny_bind (wpAny_load at' (wpAny_pure (last hp tok got c kp at' its)))
  · obtain ⟨_, _, _, _, no, _⟩ := q
    cases no
theorem c_sorted (hc : X.calm = true) : CallR X (.builtin "sorted") (rP X.K sub .sorted_) := by
  intro pins s σ H xs us Q I rv ⟨ρ, h, ds, d, h', R, r, q, k⟩
  change Z.pSorted ds h = some (d, h') at q
  unfold Z.pSorted at q
  split at q
  · rename_i n
    simp only [RelDs] at r
    obtain ⟨y, t, rfl, r, rfl⟩ := r
    obtain ⟨u, rfl, ru⟩ := vals1 rv
    split at q
    · rename_i zs e1
      obtain ⟨a, ys, rfl, hn, ha, rs⟩ := lstAt R r e1
      cases ru
      cases es : Z.strsOf zs with
      | none => rw [es] at q; cases q
      | some ss =>
        rw [es] at q
        simp only [Option.bind_some] at q
        split at q
        · rename_i h64
          obtain ⟨hl, rfl, rfl⟩ := newL_inv q
          obtain ⟨its, vv, pl, _⟩ := I.list (.of ha)
          obtain ⟨sa, hlim⟩ := strs_rel rs vv es
          have hlen : its.length = ss.length := by rw [← vv.length, ← rs.length, strsOf_length es]
          refine sorted_strs pl.isList sa (by omega) fun out ss' a1 a2 a3 => ?_
          obtain ⟨ep, he⟩ := sortedAll_at s.heap its out
          exact sort_fin (tk := s.toks) I R hlim h64 k a1 a2 a3 (fun _ _ => sortedAll_old) (Nat.le_succ _) he
        · cases q
    · rename_i kvs e1
      obtain ⟨a, kvs', rfl, hn, ha, hk, rs, hlk⟩ := dctAt R r e1
      cases ru
      cases es : Z.strsOf (kvs.map fun kv => Z.kkD kv.1) with
      | none => rw [es] at q; cases q
      | some ss =>
        rw [es] at q
        simp only [Option.bind_some] at q
        split at q
        · rename_i h64
          obtain ⟨hl, rfl, rfl⟩ := newL_inv q
          obtain ⟨hz, hS, vs, rel, dd⟩ : kvs'.length ≤ sizeLine ∧ (a == sysModules) = false ∧ ∃ vs, KV kvs' vs ∧ s.heap.DictOf (mixKind X.prog X.w) a vs := I.hok a _ ha
          obtain ⟨ep, hat⟩ := dd.dictAt
          have hlen : vs.length = ss.length := by
            have h1 : kvs'.length = kvs.length := by have := congrArg List.length hk; simpa using this
            rw [← Paired.length rel, h1, ← strsOf_length es, List.length_map]
          have hh : X.A.in1.handled = none := I.ok.hd hc
          refine Calls.call_function_entry kind_sorted plain_sorted entry_sorted (args_sorted1 _) ?_
          unfold Builtin.«sorted»
          refine wpAny_bind (m := checkCount "sorted" 1 1 _) (wpAny_pure ?_)
          refine wpAny_bind (gather_dict hh hS hat (by rw [hlen, sizeLine_eq]; omega) fun h1 tk acc hk1 hsz hacc => ?_)
          have hl1 : acc.toList.length = vs.length := by rw [Array.length_toList]; exact hacc.1
          have sa : StrsAre acc.toList (ss.map fun s => ⟨s.toArray⟩) := dict_strs kvs kvs' vs ss acc.toList hk rel es hl1 (fun j v e => hacc.2 j v (by rw [← Array.getElem?_toList]; exact e))
          have hlim : ∀ s ∈ ss, s.length ≤ Z.lim := fun s hs => by
            obtain ⟨p, hp, e⟩ := strs_mem kvs ss es s hs
            exact hlk p hp s e
          refine wpAny_bind (wpAny_newList ?_ (by rw [hl1, hlen, sizeLine_eq]; omega))
          have hoL : (h1.push { cls := .type "list", data := .seq acc.toList.toArray }).get? h1.objs.size = some (seqObj "list" acc.toList.toArray 0) := Heap.get?_push_size _ rfl
          refine wpAny_bind (wpAny_holding (wpAny_call_entry slot_list_sort ⟨_, hoL, rfl⟩ entry_list_sort (list_sort_treeK strKind_oneLt hoL sa.keysOf (fun v₁ v₂ rest e => keyKind_strs (by rw [← e]; exact sa)) (by omega) fun st' a1 a2 => ⟨_, rfl, ?_⟩) (args_list_sort _)))
          obtain ⟨ss', b1, b2, b3⟩ := sorted_out_str sa a1 a2
          obtain ⟨ep', he⟩ := sortedHeap_at (out := (arrOf st').map (·.2)) hoL
          refine wpAny_pure ⟨_, rfl, ?_⟩
          exact sort_fin (tk := tk) I R hlim h64 k b1 b2 b3 (fun b o e => by
            have e1 := hk1 b o e
            rw [sortedHeap_old (Nat.ne_of_lt (Heap.lt_size e1)) (by rw [size_push']; exact Nat.lt_succ_of_lt (Heap.lt_size e1))]
            exact Heap.get?_push_of_some _ e1) hsz he
        · cases q
    · cases q
  · cases q
end
end ZS
set_option linter.all false
set_option maxRecDepth 100000
set_option maxHeartbeats 4000000
namespace ZS
open PySem PySem.Spec PyProof.Rows L2
variable [R0]
noncomputable def cxB (X : Cx) (scope : Scope) (cl : List (Str × Addr)) (N' : List Str) (C : Addr) (s3 : Shared) (H3 : Hp) (fp : List Addr) : Cx :=
  { X with N := N', s₀ := s3, H₀ := H3, env := compEnvC scope cl C X.env, outer := X.stack, stack := X.stack, ex := fp, fn := fun _ => false, pn := [], xe := fun _ _ => False }
noncomputable def tComp (wi : TI) (bd : V → Hp → List V → Prop) (tc : TT) (te : TE) : TE := fun σ H Q => wi σ H fun J H1 => ∀ D, H1 D = none → ∃ W : Nat → Nat → Hp → Prop, (∃ m, W 0 m (upd H1 D (.lst []))) ∧ ∀ i m H, W i m H →
  (J.stop i H ∧ Q (.ref D) H) ∨ (J.go i H ∧ ∃ N : Hp → Prop, (∀ H', N H' → ∃ m', m' < m ∧ W (i + 1) m' H') ∧ ∀ v H', J.yld i H v H' → ∃ vs, bd v H' vs ∧ tc (σ ++ vs.map some) H' fun c H2 =>
    if c = true then te (σ ++ vs.map some) H2 fun y H3 => ∃ ys, H3 D = some (.lst ys) ∧ ys.length < sizeLine ∧ N (upd H3 D (.lst (ys ++ [y]))) else N H2)
noncomputable def BindOk (X : Cx) (tg : Expr) (n m : Nat) (bd : V → Hp → List V → Prop) : Prop := ∀ (pins : List (Addr × Obj)) (s : Shared) (σ os : L2.St) (H : Hp) (v : V) (u : Value) (vs : List V), Inv X pins (σ ++ os) H s → RelV v u → bd v H vs → σ.length = n → os.length = m →
  wpAny (model X.prog X.w) X.A (assign tg X.env u) (fun _ s' => Inv X pins (σ ++ vs.map some) H s') X.xe s
noncomputable def PTs (X : Cx) (ifs : List Expr) (t : TT) : Prop :=
  ∀ (pins : List (Addr × Obj)) (s : Shared) (σ : L2.St) (H : Hp) (Q : Bool → Hp → Prop), Inv X pins σ H s → t σ H Q →
    wpAny (model X.prog X.w) X.A (forIn ifs true fun c r => if r = true then do let ok ← isTrue c X.env (eval c X.env); pure (ForInStep.yield ok) else pure (ForInStep.yield r)) (TP X pins σ Q) X.xe s
theorem pts_nil {X : Cx} : PTs X [] (fun _ H Q => Q true H) := fun _ s _ H _ I h => wpAny_pure ⟨H, I, h⟩
theorem pts_one {X : Cx} {c : Expr} {t : TT} (h : PT X c t) : PTs X [c] t := by
  intro pins s σ H Q I hq
  rw [List.forIn_cons]
  refine wpAny_bind ?_
  rw [if_pos rfl]
  refine wpAny_bind (thn (h pins s σ H _ I hq) fun b s1 q => wpAny_pure ?_)
  show wpAny _ _ (forIn [] b _) _ _ _
  rw [List.forIn_nil]
  exact wpAny_pure q
section
variable {X : Cx}
structure ScOk (X : Cx) (scope : Scope) (M xs : List Str) : Prop where
  kind : scope.kind = .function
  nd : (M ++ xs).Nodup
  len : M.length = X.N.length
  at_ : ∀ p ∈ M.zip X.N, scope.names.lookup p.1 = none ∨ (p.1 = p.2 ∧ scope.names.lookup p.1 ≠ some .local)
  nocell : ∀ y ∈ scope.names, y.2 ≠ .cell
  free : ∀ y ∈ scope.names, y.2 = .free → (X.env.kindOf y.1 = some .cell) ∨ X.env.kindOf y.1 = some .free
  loc : ∀ x ∈ xs, scope.names.lookup x = some .local
  names : ∀ y ∈ scope.names, y.2 = .local → scope.names.lookup y.1 = some .local
noncomputable def clOf (env : Env) : List (Str × NameKind) → List (Str × Addr) → List (Str × Addr)
  | [], acc => acc
  | (n, .free) :: r, acc => clOf env r ((n, (env.cells.lookup n).getD 0) :: acc)
  | _ :: r, acc => clOf env r acc
theorem closure_loop {env : Env} (f : Str × NameKind → List (Str × Addr) → Sem (ForInStep (List (Str × Addr)))) (f1 : ∀ n r c, env.cells.lookup n = some c → f (n, .free) r = pure (ForInStep.yield ((n, c) :: r))) (f2 : ∀ n k r, k ≠ .free → f (n, k) r = pure (ForInStep.yield r)) :
    ∀ (l : List (Str × NameKind)) (acc : List (Str × Addr)), (∀ y ∈ l, y.2 = .free → ∃ c, env.cells.lookup y.1 = some c) → (forIn l acc f) = pure (clOf env l acc)
  | [], acc, _ => rfl
  | (n, k) :: l, acc, h => by
    rw [List.forIn_cons]
    have ih := fun acc => closure_loop f f1 f2 l acc fun y hy => h y (List.mem_cons_of_mem _ hy)
    cases k with
    | free =>
      obtain ⟨c, hc⟩ := h (n, .free) List.mem_cons_self rfl
      have hc : env.cells.lookup n = some c := hc
      rw [f1 n acc c hc, pure_bind]
      show forIn l ((n, c) :: acc) f = _
      rw [ih]
      show _ = pure (clOf env l ((n, (env.cells.lookup n).getD 0) :: acc))
      rw [hc]; rfl
    | «local» => rw [f2 _ _ _ (by simp), pure_bind]; exact ih acc
    | cell => rw [f2 _ _ _ (by simp), pure_bind]; exact ih acc
    | globalExplicit => rw [f2 _ _ _ (by simp), pure_bind]; exact ih acc
    | globalImplicit => rw [f2 _ _ _ (by simp), pure_bind]; exact ih acc
theorem closure_eq {env : Env} {scope : Scope} (h : ∀ y ∈ scope.names, y.2 = .free → ∃ c, env.cells.lookup y.1 = some c) : closureFor scope env = pure (clOf env scope.names []) := by
  unfold closureFor
  dsimp only
  rw [closure_loop _ ?_ ?_ scope.names [] h]
  · rfl
  · intro n r c e
    show (if (NameKind.free == NameKind.free) = true then _ else _) = _
    rw [if_pos (beq_self_eq_true _)]
    unfold cellOf
    rw [e]; rfl
  · intro n k r hk
    show (if (k == NameKind.free) = true then _ else _) = _
    rw [if_neg (by simpa using hk)]
theorem clOf_lookup {env : Env} : ∀ (l : List (Str × NameKind)) (acc : List (Str × Addr)) (y : Str) (c : Addr), (∀ z ∈ l, z.2 = .free → ∃ c, env.cells.lookup z.1 = some c) → (∀ y c, acc.lookup y = some c → env.cells.lookup y = some c) → (clOf env l acc).lookup y = some c → env.cells.lookup y = some c
  | [], acc, y, c, _, ha, e => ha y c e
  | (n, k) :: l, acc, y, c, h, ha, e => by
    cases k with
    | free =>
      refine clOf_lookup l _ y c (fun z hz => h z (List.mem_cons_of_mem _ hz)) (fun y' c' e' => ?_) e
      obtain ⟨c0, hc⟩ := h (n, .free) List.mem_cons_self rfl
      have hc : env.cells.lookup n = some c0 := hc
      rw [List.lookup_cons] at e'
      split at e'
      · rename_i hy
        rw [hc] at e'
        cases e'
        rw [beq_iff_eq.mp hy]; exact hc
      · exact ha _ _ e'
    | _ => exact clOf_lookup l acc y c (fun z hz => h z (List.mem_cons_of_mem _ hz)) ha e
theorem clOf_has {env : Env} : ∀ (l : List (Str × NameKind)) (acc : List (Str × Addr)) (y : Str), ((y, NameKind.free) ∈ l ∨ ∃ c, acc.lookup y = some c) → ∃ c, (clOf env l acc).lookup y = some c
  | [], acc, y, h => by
    rcases h with h | h
    · simp at h
    · exact h
  | (n, k) :: l, acc, y, h => by
    cases k with
    | free =>
      refine clOf_has l _ y ?_
      rcases h with h | ⟨c, h⟩
      · rcases List.mem_cons.mp h with e | h
        · cases e; exact .inr ⟨_, by rw [List.lookup_cons]; simp; rfl⟩
        · exact .inl h
      · refine .inr ?_
        rw [List.lookup_cons]
        split
        · exact ⟨_, rfl⟩
        · exact ⟨c, h⟩
    | _ =>
      refine clOf_has l acc y ?_
      rcases h with h | h
      · rcases List.mem_cons.mp h with e | h
        · cases e
        · exact .inl h
      · exact .inr h
theorem relabel_kind {scope : Scope} {env : Env} {y : Str} {k : NameKind} (e : (relabel scope env).names.lookup y = some k) : scope.names.lookup y = some k ∨ (k = .cell ∧ scope.names.lookup y = some .free) := by
  unfold relabel at e
  dsimp only at e
  generalize scope.names = l at e ⊢
  induction l with
  | nil => cases e
  | cons p l ih =>
    obtain ⟨n, k'⟩ := p
    rw [List.map_cons] at e
    by_cases hy : (y == n) = true
    · rw [List.lookup_cons, hy]
      dsimp only at e
      split at e
      · rename_i hh
        rw [List.lookup_cons, hy] at e
        cases e
        rw [Bool.and_eq_true, Bool.and_eq_true] at hh
        exact .inr ⟨rfl, by rw [beq_iff_eq.mp hh.1.1]⟩
      · rw [List.lookup_cons, hy] at e
        exact .inl e
    · rw [Bool.not_eq_true] at hy
      rw [List.lookup_cons, hy]
      refine ih ?_
      dsimp only at e
      split at e
      · rw [List.lookup_cons, hy] at e; exact e
      · rw [List.lookup_cons, hy] at e; exact e
theorem inv_block {pins : List (Addr × Obj)} {σ : L2.St} {H : Hp} {s : Shared} {scope : Scope} {M xs : List Str} {fp : List Addr} {h1 : Heap} {tk : Nat} (I : Inv X pins σ H s) (hc : X.calm = true) (S : ScOk X scope M xs)
    (hf : ∀ b ∈ fp, FpOk X pins H b) (hns : h1.Ns s.heap.objs.size (fun _ => none)) (hk : ∀ b o, s.heap.get? b = some o → h1.get? b = some o) (hfs : ∀ b ∈ fp, b < s.heap.objs.size) (hfr : ∀ b ∈ fp, b ∉ frs X.stack) (hfb : ∀ b ∈ fp, X.base.get? b = none) :
    Inv (cxB X scope (clOf X.env scope.names []) (M ++ xs) s.heap.objs.size s H fp) [] (σ ++ List.replicate xs.length none) H { s with heap := h1, toks := tk } := by
  have cells : ∀ z ∈ scope.names, z.2 = .free → ∃ c, X.env.cells.lookup z.1 = some c := fun z hz e => I.ok.has z.1 (S.free z hz e)
  have cl1 : ∀ y c, (clOf X.env scope.names []).lookup y = some c → X.env.cells.lookup y = some c := fun y c e => clOf_lookup scope.names [] y c cells (fun _ _ e => by cases e) e
  have inFree : ∀ y, scope.names.lookup y = some .free → (y, NameKind.free) ∈ scope.names := fun y e => PySem.mem_of_lookup e
  refine ⟨⟨I.ok.mod, S.kind, I.ok.glob, I.ok.blt, Nat.le_refl _, fun y z c e1 e2 => I.ok.inj y z c (cl1 y c e1) (cl1 z c e2), fun y e => ?_, (fun y c e => by cases e), fun _ => I.ok.hd hc, I.ok.frames, .inl rfl, fun b hb => ⟨Nat.ne_of_lt (hfs b hb), fun y c e => (hf b hb).2.2.2.2.1 y c (cl1 y c e)⟩,
      I.bs, Nat.le_trans I.ok.bsz I.sz, (fun b o e hb => (by have z := (hfb b hb).symm.trans e; cases z)), hfr, I.stack, I.stkFree⟩,
    rfl, I.bare, Un.kept hk, ⟨_, hns, fun i y v e1 e2 e3 => ?_⟩, fun y c e => ?_, I.hok.fresh (Nat.le_refl _), fun y c e => I.freeC y c (cl1 y c e), fun p hp => ?_, I.hok.kept hk, ?_⟩
  · have e' : (relabel scope X.env).names.lookup y = some .cell ∨ (relabel scope X.env).names.lookup y = some .free := e
    have hfr' : scope.names.lookup y = some .free := by
      rcases e' with e' | e'
      · rcases relabel_kind e' with z | z
        · exact absurd rfl (S.nocell _ (PySem.mem_of_lookup z))
        · exact z.2
      · rcases relabel_kind e' with z | z
        · exact z
        · cases z.1
    exact clOf_has scope.names [] y (.inl (inFree y hfr'))
  · have hi : i < X.N.length := by
      refine Nat.lt_of_not_le fun z => ?_
      rw [List.getElem?_append_right (by rw [I.len]; exact z), List.getElem?_replicate] at e2
      split at e2 <;> cases e2
    have e2' : σ[i]? = some (some v) := by rw [List.getElem?_append_left (by rw [I.len]; exact hi)] at e2; exact e2
    have e1m : M[i]? = some y := by
      have e1 : (M ++ xs)[i]? = some y := e1
      rw [List.getElem?_append_left (by rw [S.len]; exact hi)] at e1; exact e1
    have hz : (y, X.N[i]) ∈ M.zip X.N := by
      refine List.mem_of_getElem? (i := i) ?_
      rw [List.getElem?_zip_eq_some]
      exact ⟨e1m, List.getElem?_eq_getElem hi⟩
    rcases S.at_ _ hz with hno | ⟨hyy, nloc⟩
    · exfalso
      have hno : scope.names.lookup y = none := hno
      have e3' : (relabel scope X.env).names.lookup y = some .local ∨ (relabel scope X.env).names.lookup y = some .cell ∨ (relabel scope X.env).names.lookup y = some .free := e3
      have none_ : ∀ k, (relabel scope X.env).names.lookup y = some k → False := fun k z => by
        rcases relabel_kind z with z | z
        · rw [hno] at z; cases z
        · rw [hno] at z; cases z.2
      rcases e3' with z | z | z <;> exact none_ _ z
    · have e3' : (relabel scope X.env).names.lookup y = some .local ∨ (relabel scope X.env).names.lookup y = some .cell ∨ (relabel scope X.env).names.lookup y = some .free := e3
      have nloc : scope.names.lookup y ≠ some .local := nloc
      have e1' : X.N[i]? = some y := by rw [List.getElem?_eq_getElem hi]; exact congrArg some hyy.symm
      have hfr' : scope.names.lookup y = some .free := by
        rcases e3' with z | z | z
        · rcases relabel_kind z with z | z
          · exact absurd z nloc
          · cases z.1
        · rcases relabel_kind z with z | z
          · exact absurd rfl (S.nocell _ (PySem.mem_of_lookup z))
          · exact z.2
        · rcases relabel_kind z with z | z
          · exact z
          · cases z.1
      have hkx := S.free _ (inFree y hfr') rfl
      obtain ⟨m, hn, hl⟩ := I.loc
      obtain ⟨u, r, l⟩ := hl i y v e1' e2' (hkx.elim (fun z => .inr (.inl z)) (fun z => .inr (.inr z)))
      refine ⟨u, r, ?_⟩
      rcases l with ⟨l, _⟩ | ⟨_, c, hc', hcell⟩
      · have l : X.env.kindOf y = some .local := l
        rcases hkx with z | z <;> (rw [l] at z; cases z)
      · obtain ⟨c2, hc2⟩ := clOf_has (env := X.env) scope.names [] y (.inl (inFree y hfr'))
        have := cl1 y c2 hc2
        rw [hc'] at this; cases this
        refine .inr ⟨?_, c, hc2, ?_⟩
        · rcases e3' with z | z | z
          · rcases relabel_kind z with z | z
            · exact absurd z nloc
            · cases z.1
          · exact .inl z
          · exact .inr z
        · obtain ⟨o, ho, hd⟩ := hcell
          exact ⟨o, hk _ _ ho, hd⟩
  · obtain ⟨v, o, ho, hd⟩ := I.cell y c (cl1 y c e)
    exact ⟨v, o, hk _ _ ho, hd⟩
  · exact absurd (show p ∈ ([] : List (Addr × Obj)) from hp) (by simp)
  · show (σ ++ List.replicate xs.length none).length = (M ++ xs).length
    rw [List.length_append, List.length_append, List.length_replicate, I.len, S.len]
theorem fp_facts {pins : List (Addr × Obj)} {σ : L2.St} {H : Hp} {s : Shared} {b : Addr} (I : Inv X pins σ H s) (hf : FpOk X pins H b) : b ∉ frs X.stack ∧ X.base.get? b = none := by
  obtain ⟨_, h2, h3, h4, _⟩ := hf
  refine ⟨fun z => ?_, ?_⟩
  · rcases List.mem_cons.mp (I.stkSub b z) with q | q
    · exact h2 q
    · exact h3 q
  · cases e : X.base.get? b with
    | none => rfl
    | some o =>
      rcases h4 with z | z
      · exact absurd z (I.ok.noex b o e)
      · exact absurd (Nat.lt_of_lt_of_le (Heap.lt_size e) (Nat.le_trans I.ok.bsz z)) (Nat.lt_irrefl _)
theorem inv_back {pins : List (Addr × Obj)} {σ σ' : L2.St} {H H' : Hp} {s s' : Shared} {scope : Scope} {cl : List (Str × Addr)} {N' : List Str} {fp : List Addr} {h'' : Heap} (I : Inv X pins σ H s) (hf : ∀ b ∈ fp, FpOk X pins H b)
    (J : Inv (cxB X scope cl N' s.heap.objs.size s H fp) [] σ' H' s') (hs : Heap.SameBut s.heap.objs.size s'.heap h'') : Inv X pins σ H' { s' with heap := h'' } := by
  have hos := J.os
  obtain ⟨hh, g, d, t, os⟩ := s'
  obtain rfl : os = s.os := hos
  have hok : HOk X.prog X.w H' h'' := fun a u e => by
    have hne : ∀ b, H' b ≠ none → b ≠ s.heap.objs.size := fun b hb z => hb (by rw [z]; exact J.free)
    refine (J.hok a u e).stay (fun b o hb q => hs.extBut b o (hne b ?_) q) (fun _ q => q) fun _ _ q => q
    rcases hb with rfl | hb
    · rw [e]; simp
    · rw [hb]; simp
  have un : Un (frs X.stack) fp H H' s.heap h'' := by
    have u := J.base
    have ne : ∀ b o, s.heap.get? b = some o → b ≠ s.heap.objs.size := fun b o e => Nat.ne_of_lt (Heap.lt_size e)
    exact ⟨fun b o e n hb hx => hs.extBut b o (ne b o e) (u.keep b o e n hb hx), fun b o e n hb hx => let ⟨sl, q⟩ := u.slot b o e n hb hx; ⟨sl, hs.extBut b _ (ne b o e) q⟩, u.free, fun b o e hx => let ⟨o', q⟩ := u.there b o e hx; ⟨o', hs.extBut b _ (ne b o e) q⟩, u.tups, u.frzs, u.tbls⟩
  show Inv X pins σ H' { s with heap := h'', gens := g, drawn := d, toks := t }
  exact Inv.call (h' := h'') (g' := g) (d' := d) (t' := t) (ch := fp) I un hok J.bare fun b hb => ⟨(hf b hb).2.2.2.1, (hf b hb).2.1, (hf b hb).2.2.2.2.1, (hf b hb).2.2.2.2.2⟩
theorem noE {α : Type} {M : Model} {A : Around} {t : Sem α} {Q : α → Shared → Prop} {E : Value → Shared → Prop} {s : Shared} (h : wpAny M A t Q (fun _ _ => False) s) : wpAny M A t Q E s := wpAny_mono h (fun _ _ q => q) fun _ _ f => f.elim
theorem loop_any {pg : Program} {wd : World} {A : Around} {elt tgt src : Expr} {ifs : List Expr} {sc : Scope} {pos : Pos} {it acc : Value} {env : Env} {R : Result → Shared → Prop} (W : Nat → Shared → Prop) {Er : Value → Shared → Prop} (hEr : Er = notedBy (model pg wd) A env fun e s' => R (.error e) s')
    (turn : ∀ k t, W k t → wpAny (model pg wd) A (pyNext it) (fun r t1 => match r with
      | none => R (.ok .next) t1
      | some v => wpAny (model pg wd) A (letOwnedTupleGo tgt it v) (fun _ t2 => wpAny (model pg wd) A (assign tgt env v) (fun _ t3 =>
          wpAny (model pg wd) A (forIn ifs true fun c r => if r = true then do let ok ← isTrue c env (eval c env); pure (ForInStep.yield ok) else pure (ForInStep.yield r)) (fun ok t4 => if ok = true then wpAny (model pg wd) A (eval elt env) (fun x t5 =>
            wpAny (model pg wd) A (call (.builtin "list.append") [acc, x]) (fun _ t6 => ∃ m, m < k ∧ W m t6) Er t5) Er t4 else ∃ m, m < k ∧ W m t4) Er t3) Er t2) Er t1) Er t)
    (k : Nat) {t : Shared} (h : W k t) : codeAny (model pg wd) A (.compLoop (.ListComp elt [⟨tgt, src, ifs, 0⟩] sc pos) 0 it acc env) R t := by
  subst hEr
  refine codeAny_loop rfl W (fun k t hW => ?_) k h
  show wpAny _ A ((compTurn (.ListComp elt [⟨tgt, src, ifs, 0⟩] sc pos) 0 it acc env).onRaise _) _ _ t
  refine wpAny_noted ?_
  rw [compTurn_list]
  refine wpAny_bind (wpAny_standAt (wpAny_bind (wpAny_mono (turn k t hW) (fun r t1 q1 => ?_) fun _ _ z => z)))
  cases r with
  | none => exact wpAny_pure q1
  | some v =>
    refine wpAny_bind (wpAny_mono q1 (fun _ t2 q2 => wpAny_bind (wpAny_mono q2 (fun _ t3 q3 => wpAny_bind (wpAny_mono q3 (fun ok t4 q4 => ?_) fun _ _ z => z)) fun _ _ z => z)) fun _ _ z => z)
    cases ok with
    | false => exact wpAny_pure ⟨rfl, q4⟩
    | true => exact wpAny_bind (wpAny_bind (wpAny_mono q4 (fun x t5 q5 => wpAny_bind (wpAny_mono q5 (fun _ t6 q6 => wpAny_pure (wpAny_pure ⟨rfl, q6⟩)) fun _ _ z => z)) fun _ _ z => z))
theorem comp_core {pins : List (Addr × Obj)} {s : Shared} {σ : L2.St} {H : Hp} {Q : VK} {use : Option (Value → Sem Unit)} {QQ : Value → Shared → Prop} {pos' : Pos} {tg elt iter : Expr} {ifs : List Expr} {M xs : List Str} {pos : Pos} {scope : Scope} {wi : TI} {bd : V → Hp → List V → Prop} {tc : TT} {te : TE} (hcalm : X.calm = true) (S : ScOk X scope M xs) (hi : PI X tg iter wi)
    (hbd : ∀ v H vs, bd v H vs → vs.length = xs.length) (hg : ∀ C s H fp, BindOk (cxB X scope (clOf X.env scope.names []) (M ++ xs) C s H fp) tg X.N.length xs.length bd)
    (hc : ∀ C s H fp, PTs (cxB X scope (clOf X.env scope.names []) (M ++ xs) C s H fp) ifs tc) (he : ∀ C s H fp, PE (cxB X scope (clOf X.env scope.names []) (M ++ xs) C s H fp) elt te)
    (hs : ∀ v, foldedSetIterable iter X.env v = pure v) (I : Inv X pins σ H s) (h : tComp wi bd tc te σ H Q)
    (fin : ∀ (D C : Addr) (s6 : Shared) (H5 : Hp) (m : Str → Option Value) (r : Flow), Inv X pins σ H5 s6 → s6.heap.Ns C m → FpOk X pins H5 C → Q (.ref D) H5 → compPost (model X.prog X.w) X.A X.xe use QQ (.ref D) C (.ok r) s6) :
    wpAny (model X.prog X.w) X.A (comprehension (.ListComp elt [⟨tg, iter, ifs, 0⟩] scope pos) scope X.env pos' (newList []) false (eval iter X.env) use) QQ X.xe s := by
  have cells : ∀ z ∈ scope.names, z.2 = .free → ∃ c, X.env.cells.lookup z.1 = some c := fun z hz e => I.ok.has z.1 (S.free z hz e)
  refine wpAny_comprehension_free (use := use) rfl hs (closure_eq cells) S.kind S.names ?_
  refine thn (hi pins s σ H _ I h) fun v s1 h1 => thn h1 fun itv s2 h2 => ?_
  obtain ⟨it, fp, tn, J, H2, e, I2, T, st2, f2, q2⟩ := h2
  subst e
  -- the new list
  refine wpAny_newObj_type ?_
  have hD : H2 s2.heap.objs.size = none := I2.hok.fresh (Nat.le_refl _)
  have I3 : Inv X pins σ (upd H2 s2.heap.objs.size (.lst [])) { s2 with heap := s2.heap.push { cls := .type "list", data := .seq ([] : List Value).toArray } } :=
    I2.laid (t' := s2.toks) (fun b u z => Heap.get?_push_of_some _ z) (Nat.le_refl _) ⟨Nat.zero_le _, [], 0, .nil, Heap.get?_push_size _ rfl⟩
  have fpne : ∀ b ∈ fp, b ≠ s2.heap.objs.size := fun b hb => by
    obtain ⟨o, ho, _⟩ := T.obj _ _ st2 b hb
    exact Nat.ne_of_lt (Heap.lt_size ho)
  have f3 : ∀ b ∈ fp, FpOk X pins (upd H2 s2.heap.objs.size (.lst [])) b := fun b hb => ⟨by rw [upd_ne (fpne b hb)]; exact (f2 b hb).1, (f2 b hb).2⟩
  have st3 : tn 0 (s2.heap.push { cls := .type "list", data := .seq ([] : List Value).toArray }) := T.keep _ _ _ st2 fun b _ o z => Heap.get?_push_of_some _ z
  obtain ⟨W, ⟨m0, w0⟩, turn⟩ := q2 _ hD
  generalize hD' : s2.heap.objs.size = D at *
  generalize hs3 : ({ s2 with heap := s2.heap.push { cls := .type "list", data := .seq ([] : List Value).toArray } } : Shared) = s3 at *
  generalize hH3 : upd H2 D (.lst []) = H3 at *
  have st3 : tn 0 s3.heap := by rw [← hs3]; exact st3
  -- the frame
  refine wpAny_newFunctionEnv S.nocell (fun y hy => by simp at hy) (fun h4 hns hsb => ?_) S.kind
  have kp : ∀ b o, s3.heap.get? b = some o → h4.get? b = some o := fun b o z => hsb.extBut b o (Nat.ne_of_lt (Heap.lt_size z)) (Heap.get?_push_of_some _ z)
  have hfs : ∀ b ∈ fp, b < s3.heap.objs.size := fun b hb => by
    obtain ⟨o, ho, _⟩ := T.obj _ _ st3 b hb
    exact Heap.lt_size ho
  have I4 := inv_block (tk := s3.toks + ([] : List (Str × Value)).length) I3 hcalm S f3 hns kp hfs (fun b hb => (fp_facts I3 (f3 b hb)).1) (fun b hb => (fp_facts I3 (f3 b hb)).2)
  have hfpC : ∀ H5 : Hp, H5 s3.heap.objs.size = none → FpOk X pins H5 s3.heap.objs.size := fun H5 hn5 => I3.fpOk (Nat.le_refl _) hn5
  generalize hC : s3.heap.objs.size = C at *
  generalize hs4 : ({ s3 with heap := h4, toks := s3.toks + ([] : List (Str × Value)).length } : Shared) = s4 at *
  have st4 : tn 0 s4.heap := by rw [← hs4]; exact T.keep _ _ _ st3 fun b _ o z => kp b o z
  have back : ∀ {σ' : L2.St} {H' : Hp} {s' : Shared} {h'' : Heap}, Inv (cxB X scope (clOf X.env scope.names []) (M ++ xs) C s3 H3 fp) [] σ' H' s' → Heap.SameBut C s'.heap h'' → Inv X pins σ H' { s' with heap := h'' } := fun J hs' => by
    subst hC
    exact inv_back I3 f3 J hs'
  have stat : ∀ {H' : Hp}, (∀ b ∈ fp, H' b = none) → ∀ b ∈ fp, FpOk (cxB X scope (clOf X.env scope.names []) (M ++ xs) C s3 H3 fp) [] H' b := fun hn b hb => by
    refine ⟨hn b hb, ?_, ?_, .inl hb, fun y c e => ?_, fun p hp => absurd (show p ∈ ([] : List (Addr × Obj)) from hp) (by simp)⟩
    · show b ≠ C
      exact Nat.ne_of_lt (hfs b hb)
    · exact (fp_facts I3 (f3 b hb)).1
    · exact (f3 b hb).2.2.2.2.1 y c (clOf_lookup scope.names [] y c cells (fun _ _ e => by cases e) e)
  have loop : codeAny (model X.prog X.w) X.A (.compLoop (.ListComp elt [⟨tg, iter, ifs, 0⟩] scope pos) 0 (.ref it) (.ref D) (compEnvC scope (clOf X.env scope.names []) C X.env)) (compPost (model X.prog X.w) X.A X.xe use QQ (.ref D) C) s4 := by
    refine loop_any (Er := _) (W := fun n s' => ∃ i os H', os.length = xs.length ∧ Inv (cxB X scope (clOf X.env scope.names []) (M ++ xs) C s3 H3 fp) [] (σ ++ os) H' s' ∧ tn i s'.heap ∧ (∀ b ∈ fp, H' b = none) ∧ W i n H') rfl ?_ m0 ⟨0, _, H3, List.length_replicate, I4, st4, fun b hb => (f3 b hb).1, w0⟩
    rintro n s5 ⟨i, os, H5, los, I5, st5, fr5, w5⟩
    rcases turn i n H5 w5 with ⟨stop, qn⟩ | ⟨go, Nn, hNn, step⟩
    · refine noE (thn (T.done (cxB X scope (clOf X.env scope.names []) (M ++ xs) C s3 H3 fp) rfl rfl rfl hcalm i [] s5 _ H5 _ I5 (stat fr5) st5 stop) fun r s6 ⟨hr, I6⟩ => ?_)
      subst hr
      obtain ⟨m, hn, _⟩ := I6.loc
      exact fin D C s6 H5 m _ (back I6 ⟨rfl, fun _ _ => rfl⟩) hn (hfpC H5 I6.free) qn
    · refine noE (thn (T.item (cxB X scope (clOf X.env scope.names []) (M ++ xs) C s3 H3 fp) rfl rfl rfl hcalm i [] s5 _ H5 (fun _ _ => False) I5 (stat fr5) st5 go) fun r s6 ⟨u, hr, h6⟩ => ?_)
      subst hr
      refine noE (thn h6 fun _ s6 ⟨v, H6, I6, r6, y6, st6, fr6⟩ => ?_)
      have I6' := I6.pinned (stat fr6) (T.obj _ _ st6)
      obtain ⟨vs, hbv, step⟩ := step v _ y6
      refine noE (thn (hg C s3 H3 fp _ s6 σ os H6 v u vs I6' r6 hbv I.len los) fun _ s7 I7 => ?_)
      refine noE (thn (hc C s3 H3 fp _ s7 _ _ _ I7 step) fun ok s8 ⟨H8, I8, q8⟩ => ?_)
      have again : ∀ {H9 : Hp} {s9 : Shared}, Inv (cxB X scope (clOf X.env scope.names []) (M ++ xs) C s3 H3 fp) ([] ++ pinsAt fp s6.heap) (σ ++ vs.map some) H9 s9 → Nn H9 → ∃ m, m < n ∧ ∃ i os H', os.length = xs.length ∧ Inv (cxB X scope (clOf X.env scope.names []) (M ++ xs) C s3 H3 fp) [] (σ ++ os) H' s9 ∧ tn i s9.heap ∧ (∀ b ∈ fp, H' b = none) ∧ W i m H' := fun {H9 s9} I9 n9 => by
        obtain ⟨m', hm, w9⟩ := hNn _ n9
        refine ⟨m', hm, i + 1, vs.map some, H9, (by rw [List.length_map]; exact hbd _ _ _ hbv), I9.unpinned, T.keep _ _ _ st6 fun b hb o z => (I9.pin (b, o) (List.mem_append_right _ (List.mem_append_right _ (mem_pinsAt hb z)))).1, fun b hb => ?_, w9⟩
        obtain ⟨o, z, d⟩ := T.obj _ _ st6 b hb
        exact (I9.pin (b, o) (List.mem_append_right _ (List.mem_append_right _ (mem_pinsAt hb z)))).2.1
      cases ok with
      | false => rw [if_neg (by decide)] at q8 ⊢; exact again I8 q8
      | true =>
        rw [if_pos rfl] at q8 ⊢
        refine noE (thn (he C s3 H3 fp _ s8 _ _ _ I8 q8) fun y s9 ⟨yv, H9, I9, r9, ys, e9, hz, n9⟩ => ?_)
        refine noE (thn (mt_append (X := cxB X scope (clOf X.env scope.names []) (M ++ xs) C s3 H3 fp) _ s9 _ H9 (.ref D) [yv] (.ref D) [y] (fun _ H' => Nn H') I9 rfl (.cons r9 .nil) ⟨D, ys, yv, rfl, rfl, e9, hz, n9⟩) fun _ s10 ⟨_, H10, I10, _, n10⟩ => ?_)
        exact again I10 n10
  exact codeAny_compStart_list loop (T.self X.A 0 s4 _ _ st4 loop)
theorem pe_comp {tg elt iter : Expr} {ifs : List Expr} {M xs : List Str} {pos : Pos} {scope : Scope} {wi : TI} {bd : V → Hp → List V → Prop} {tc : TT} {te : TE} (hcalm : X.calm = true) (S : ScOk X scope M xs) (hi : PI X tg iter wi)
    (hbd : ∀ v H vs, bd v H vs → vs.length = xs.length) (hg : ∀ C s H fp, BindOk (cxB X scope (clOf X.env scope.names []) (M ++ xs) C s H fp) tg X.N.length xs.length bd)
    (hc : ∀ C s H fp, PTs (cxB X scope (clOf X.env scope.names []) (M ++ xs) C s H fp) ifs tc) (he : ∀ C s H fp, PE (cxB X scope (clOf X.env scope.names []) (M ++ xs) C s H fp) elt te)
    (hs : ∀ v, foldedSetIterable iter X.env v = pure v) : PE X (.ListComp elt [⟨tg, iter, ifs, 0⟩] scope pos) (tComp wi bd tc te) := by
  intro pins s σ H Q I h
  rw [eval_ListComp]
  refine comp_core (use := none) (QQ := EP X pins σ Q) hcalm S hi hbd hg hc he hs I h fun D C s6 H5 m r I6 hn hf q => ?_
  exact ⟨m, hn, fun h'' hs' => ⟨.ref D, H5, I6.turned (t' := s6.toks) (fun b o hb e => hs'.extBut b o hb e) hf.1 hf.2.1 hf.2.2.2.1 hf.2.2.2.2.1 hf.2.2.2.2.2, rfl, q⟩⟩
theorem ps_comp {tg elt iter : Expr} {ifs : List Expr} {M xs : List Str} {pos spos py : Pos} {scope : Scope} {wi : TI} {bd : V → Hp → List V → Prop} {tc : TT} {te : TE} {i : Nat} {y : Str} (hcalm : X.calm = true) (S : ScOk X scope M xs) (hi : PI X tg iter wi)
    (hbd : ∀ v H vs, bd v H vs → vs.length = xs.length) (hg : ∀ C s H fp, BindOk (cxB X scope (clOf X.env scope.names []) (M ++ xs) C s H fp) tg X.N.length xs.length bd)
    (hc : ∀ C s H fp, PTs (cxB X scope (clOf X.env scope.names []) (M ++ xs) C s H fp) ifs tc) (he : ∀ C s H fp, PE (cxB X scope (clOf X.env scope.names []) (M ++ xs) C s H fp) elt te)
    (hs : ∀ v, foldedSetIterable iter X.env v = pure v) (hN : X.N.Nodup) (hy : X.N[i]? = some y) (hx : Loc X.env.scope y) (hf : X.fn y = true ∨ X.env.scope.names.lookup y = some .local)
    (hsw : swapsWith (.ListComp elt [⟨tg, iter, ifs, 0⟩] scope pos) (some (.Name y py)) spos.line X.env = pure true) :
    PS X (.Assign [.Name y py] (.ListComp elt [⟨tg, iter, ifs, 0⟩] scope pos) spos) (tAsg (tComp wi bd tc te) (gName i)) := by
  intro pins s σ H D0 I h
  rw [exec_Assign_Name_used _ _ _ _ hsw]
  refine wpAny_bind (wpAny_standAt (wpAny_bind ?_))
  show wpAny _ X.A (do let _ ← comprehension (.ListComp elt [⟨tg, iter, ifs, 0⟩] scope pos) scope X.env _ (newList []) false (eval iter X.env) (some (assign (.Name y py) X.env))) _ _ s
  refine wpAny_bind (thn (comp_core (use := some (assign (.Name y py) X.env)) (QQ := fun _ s' => SP X pins D0 .next s') hcalm S hi hbd hg hc he hs I h fun D C s6 H5 m r I6 hn hfp q => ?_) fun _ s' hq => wpAny_pure (wpAny_pure hq))
  show wpAny _ _ (assign (.Name y py) X.env (.ref D)) _ _ _
  refine wpAny_assign_Name (store_ok2 I6 hN hy hx (v := .ref D) rfl (fun s7 I7 ⟨a, sb, ha⟩ => ?_) hf)
  have hne : C ≠ a := by
    rcases ha with rfl | ha
    · exact hfp.2.1
    · exact (hfp.2.2.2.2.1 y a ha).symm
  refine ⟨m, hn.sameBut sb hne, fun h'' hs' => ⟨_, H5, I7.turned (t' := s7.toks) (fun b o hb e => hs'.extBut b o hb e) hfp.1 hfp.2.1 hfp.2.2.2.1 hfp.2.2.2.2.1 hfp.2.2.2.2.2, q⟩⟩
end
end ZS
set_option linter.all false
set_option maxRecDepth 100000
set_option maxHeartbeats 4000000
namespace ZS
open PySem PySem.Spec PyProof.Rows L2
variable [R0]
section
variable {X : Cx} {sub : Nat → Nat → Bool} {Γ : Z.Gam} {E : Z.PX}
theorem lc_none : PTs X [] (upT X.K (Z.wpC sub Γ E .none)) := by
  intro pins s σ H Q I ⟨ρ, h, τ, Q', R, L, w, k⟩
  simp only [Z.wpC] at w
  exact pts_nil pins s σ H Q I (k true h ρ H .refl R w)
theorem lc_one {c : Expr} {t : Z.Tx} (ht : LT X sub Γ E c t) : PTs X [c] (upT X.K (Z.wpC sub Γ E (.one t))) := by
  intro pins s σ H Q I ⟨ρ, h, τ, Q', R, L, w, k⟩
  simp only [Z.wpC] at w
  exact pts_one ht pins s σ H Q I ⟨ρ, h, τ, Q', R, L, w, k⟩
noncomputable def bd1 : V → Hp → List V → Prop := fun v _ vs => vs = [v]
noncomputable def bd2 (K : PySem.W.Frag) : V → Hp → List V → Prop := fun v H vs => ∃ a, v = .ref a ∧ SqT K H a vs ∧ vs.length = 2
theorem bind_name {x : Str} {px : Pos} {n : Nat} (hN : X.N.Nodup) (hx : X.N[n]? = some x) (hl : X.env.scope.names.lookup x = some .local) : BindOk X (.Name x px) n 1 bd1 := by
  intro pins s σ os H v u vs I r hb hn hm
  cases hb
  obtain ⟨o, rfl⟩ := List.length_eq_one_iff.mp hm
  refine thn (pg_name hN hx (.inl hl) (.inr hl) pins s _ H v u (fun σ' H' => σ' = σ ++ [some v] ∧ H' = H) I r ⟨?_, rfl⟩) fun _ s1 ⟨σ1, H1, I1, e1, e2⟩ => ?_
  · subst hn
    rw [List.set_append_right _ _ (Nat.le_refl _)]; simp
  · subst e1 e2; exact I1
theorem len2 {α : Type} {l : List α} (h : l.length = 2) : ∃ a b, l = [a, b] := by
  match l, h with
  | [a, b], _ => exact ⟨a, b, rfl⟩
theorem bind_pair {x y : Str} {px py pt : Pos} {n k : Nat} (hc : X.calm = true) (hN : X.N.Nodup) (hx : X.N[n]? = some x) (hy : X.N[n + 1]? = some y) (hlx : X.env.scope.names.lookup x = some .local) (hly : X.env.scope.names.lookup y = some .local) :
    BindOk X (.Tuple [.Name x px, .Name y py] k pt) n 2 (bd2 X.K) := by
  intro pins s σ os H v u vs I r hb hn hm
  obtain ⟨a, rfl, hS, hv⟩ := hb
  obtain ⟨o, p, rfl⟩ := len2 hm
  obtain ⟨v1, v2, rfl⟩ := len2 hv
  refine thn (pg_tup (n := 2) hc (pgs_cons (pg_name (pos := px) hN hx (.inl hlx) (.inr hlx)) (pgs_cons (pg_name (pos := py) hN hy (.inl hly) (.inr hly)) pgs_nil)) (by rfl) (by rfl) pins s _ H _ u (fun σ' H' => σ' = σ ++ [some v1, some v2] ∧ H' = H) I r ⟨a, _, rfl, hS, rfl, v1, _, rfl, v2, _, rfl, rfl, ?_, rfl⟩) fun _ s1 ⟨σ1, H1, I1, e1, e2⟩ => ?_
  · subst hn
    rw [List.set_append_right _ _ (Nat.le_refl _), List.set_append_right _ _ (Nat.le_succ _)]; simp
  · subst e1 e2; exact I1
theorem RelL.more {K : PySem.W.Frag} {ρ : List Addr} {H : Hp} {τ : Z.Lo} {σ : L2.St} {ds : List Z.D} {vs : List V} (L : RelL K ρ H τ σ) (r : RelDs K ρ H ds vs) : RelL K ρ H (τ ++ ds.map some) (σ ++ vs.map some) := by
  refine ⟨by simp [L.1, r.length], fun i d e => ?_⟩
  by_cases hi : i < τ.length
  · rw [List.getElem?_append_left hi] at e
    rw [List.getElem?_append_left (by rw [← L.1]; exact hi)]
    exact L.2 i d e
  · rw [List.getElem?_append_right (by omega), List.getElem?_map] at e
    rw [List.getElem?_append_right (by rw [← L.1]; omega), List.getElem?_map, ← L.1]
    cases q : ds[i - τ.length]? with
    | none => rw [q] at e; cases e
    | some d' =>
      rw [q] at e; cases e
      obtain ⟨v, e1, e2⟩ := r.get q
      exact ⟨v, by rw [e1]; rfl, e2⟩
theorem more1 {K : PySem.W.Frag} {ρ : List Addr} {H : Hp} {d : Z.D} {v : V} {τ τ' : Z.Lo} {σ : L2.St} (r : RelD K ρ H d v) (L : RelL K ρ H τ σ) (e : Z.moreT 1 d τ = some τ') : ∃ vs, bd1 v H vs ∧ RelL K ρ H τ' (σ ++ vs.map some) := by
  have e : some (τ ++ [some d]) = some τ' := by rw [← e]; cases d <;> rfl
  cases e
  exact ⟨[v], rfl, RelL.more (ds := [d]) L (.one r)⟩
theorem more2 {K : PySem.W.Frag} {ρ : List Addr} {H : Hp} {d : Z.D} {v : V} {τ τ' : Z.Lo} {σ : L2.St} (r : RelD K ρ H d v) (L : RelL K ρ H τ σ) (e : Z.moreT 2 d τ = some τ') : ∃ vs, bd2 K v H vs ∧ RelL K ρ H τ' (σ ++ vs.map some) := by
  cases d with
  | tup ds =>
    simp only [Z.moreT] at e
    split at e
    · rename_i hl
      cases e
      simp only [RelD] at r
      obtain ⟨a, ys, rfl, q, r⟩ := r
      exact ⟨ys, ⟨a, rfl, q, by rw [← r.length]; exact hl⟩, L.more r⟩
    · cases e
  | _ => simp [Z.moreT] at e
theorem comp_weak {xs : List Str} {nt : Nat} {kd : Z.IK} {src : Z.Exs} {cond : Z.Txs} {elt' : Z.Ex} {bd : V → Hp → List V → Prop} (hmb : ∀ {ρ H d v τ τ' σ}, RelD X.K ρ H d v → RelL X.K ρ H τ σ → Z.moreT nt d τ = some τ' → ∃ vs, bd v H vs ∧ RelL X.K ρ H τ' (σ ++ vs.map some)) :
    ∀ σ H Q, upE X.K (Z.wpE sub Γ E (.comp kd src nt cond elt')) σ H Q → tComp (upI X.K kd (Z.wpEs sub Γ E src)) bd (upT X.K (Z.wpC sub Γ E cond)) (upE X.K (Z.wpE sub Γ E elt')) σ H Q := by
  rintro σ H Q ⟨ρ, h, τ, Q', R, L, w, k⟩
  simp only [Z.wpE] at w
  refine ⟨ρ, h, τ, _, R, L, w, fun ds h1 ρ1 H1 vs e1 R1 r1 w1 => ?_⟩
  cases eJ : Z.iterOf kd ds h1 with
  | none => rw [eJ] at w1; exact w1.elim
  | some J =>
    rw [eJ] at w1
    refine ⟨J, rfl, fun J' hJ D hD => ?_⟩
    obtain ⟨W, ⟨m, w0⟩, turn⟩ := w1
    obtain ⟨eD, RD, rD⟩ := new_list (ds := []) (vs := []) R1 (by simp [RelDs]) hD
    refine ⟨fun i m H' => ∃ ρ' h', Ext X.K (ρ1 ++ [D]) (upd H1 D (.lst [])) ρ' H' ∧ Rep X.K ρ' h' H' ∧ W i m h', ⟨m, _, _, .refl, RD, w0⟩, ?_⟩
    rintro n m H2 ⟨ρ2, h2, e2, R2, w2⟩
    have t := turn n m h2 w2
    have j := hJ n ρ2 h2 H2 (eD.trans e2) R2
    have hDn : ρ2[h1.length]? = some D := e2.pre _ _ (by rw [← R1.len, List.getElem?_append_right (Nat.le_refl _)]; simp)
    cases ev : J n h2 with
    | none => rw [ev] at t; exact t.elim
    | some o =>
      rw [ev] at t j
      cases o with
      | none => exact .inl ⟨j, k _ h2 ρ2 H2 _ (e1.trans (eD.trans e2)) R2 (by simp only [RelD]; exact ⟨D, rfl, hDn⟩) t⟩
      | some d =>
        obtain ⟨go, yl⟩ := j
        cases em : Z.moreT nt d τ with
        | none => simp only [em] at t
        | some τ2 =>
          simp only [em] at t
          obtain ⟨Nn, hNn, t⟩ := t
          refine .inr ⟨go, fun H' => ∃ m', m' < m ∧ ∃ ρ' h', Ext X.K (ρ1 ++ [D]) (upd H1 D (.lst [])) ρ' H' ∧ Rep X.K ρ' h' H' ∧ W (n + 1) m' h', fun H' q => q, fun v H' hy => ?_⟩
          obtain ⟨eX, R2, rv⟩ := yl v H' hy
          have e2 := e2.trans eX
          obtain ⟨vs', hb, L2'⟩ := hmb rv (L.mono (e1.trans (eD.trans e2))) em
          have nx : ∀ {ρ3 h3 H3}, Ext X.K ρ2 H' ρ3 H3 → Rep X.K ρ3 h3 H3 → Nn h3 → ∃ m', m' < m ∧ ∃ ρ' h', Ext X.K (ρ1 ++ [D]) (upd H1 D (.lst [])) ρ' H3 ∧ Rep X.K ρ' h' H3 ∧ W (n + 1) m' h' := fun e3 R3 q3 => by
            obtain ⟨m', hm, w3⟩ := hNn _ q3
            exact ⟨m', hm, _, _, e2.trans e3, R3, w3⟩
          refine ⟨vs', hb, ρ2, h2, τ2, _, R2, L2', t, fun c h3 ρ3 H3 e3 R3 q3 => ?_⟩
          cases c with
          | false => rw [if_neg (by decide)] at q3 ⊢; exact nx e3 R3 q3
          | true =>
            rw [if_pos rfl] at q3 ⊢
            refine ⟨ρ3, h3, τ2, _, R3, L2'.mono e3, q3, fun d4 h4 ρ4 H4 y e4 R4 r4 q4 => ?_⟩
            change (match Z.pApp [.ref h1.length, d4] h4 with | some (_, h5) => Nn h5 | none => False) at q4
            have hq : ∃ ys4, h4[h1.length]? = some (.lst ys4) ∧ ys4.length + 1 ≤ Z.lim ∧ Nn (h4.set h1.length (.lst (ys4 ++ [d4]))) := by
              unfold Z.pApp at q4
              cases e5 : h4[h1.length]? with
              | none => simp [e5] at q4
              | some o =>
                cases o with
                | lst ys4 =>
                  simp only [e5, Z.setL] at q4
                  by_cases hl : (ys4 ++ [d4]).length ≤ Z.lim
                  · rw [if_pos hl] at q4
                    exact ⟨ys4, rfl, by simpa using hl, q4⟩
                  · rw [if_neg hl] at q4; exact q4.elim
                | _ => simp [e5] at q4
            obtain ⟨ys4, e5, hl, q5⟩ := hq
            obtain ⟨a, ys, ra, hn, ha, rs⟩ := lstAt R4 (by simp only [RelD]; exact ⟨D, rfl, (e3.trans e4).pre _ _ hDn⟩) e5
            cases ra
            obtain ⟨e6, R6⟩ := set_list' (xs := []) R4 hn ha (rs.append (.one r4))
            exact ⟨ys, ha, by rw [← rs.length, ← limE]; omega, nx (e3.trans (e4.trans e6)) R6 q5⟩
theorem le_comp {tg elt iter : Expr} {ifs : List Expr} {M xs : List Str} {pos : Pos} {scope : Scope} {nt : Nat} {kd : Z.IK} {src : Z.Exs} {cond : Z.Txs} {elt' : Z.Ex} {bd : V → Hp → List V → Prop} (hcalm : X.calm = true) (S : ScOk X scope M xs) (hi : LI X sub Γ E tg iter kd src)
    (hbd : ∀ v H vs, bd v H vs → vs.length = xs.length) (hg : ∀ C s H fp, BindOk (cxB X scope (clOf X.env scope.names []) (M ++ xs) C s H fp) tg X.N.length xs.length bd)
    (hmb : ∀ {ρ H d v τ τ' σ}, RelD X.K ρ H d v → RelL X.K ρ H τ σ → Z.moreT nt d τ = some τ' → ∃ vs, bd v H vs ∧ RelL X.K ρ H τ' (σ ++ vs.map some))
    (hc : ∀ C s H fp, PTs (cxB X scope (clOf X.env scope.names []) (M ++ xs) C s H fp) ifs (upT X.K (Z.wpC sub Γ E cond))) (he : ∀ C s H fp, LE (cxB X scope (clOf X.env scope.names []) (M ++ xs) C s H fp) sub Γ E elt elt')
    (hs : ∀ v, foldedSetIterable iter X.env v = pure v) : LE X sub Γ E (.ListComp elt [⟨tg, iter, ifs, 0⟩] scope pos) (.comp kd src nt cond elt') := by
  refine PEw (pe_comp (te := upE X.K (Z.wpE sub Γ E elt')) hcalm S hi hbd hg hc he hs) (comp_weak (xs := xs) hmb)
theorem ls_comp {i : Nat} {y : Str} {py spos : Pos} {tg elt iter : Expr} {ifs : List Expr} {M xs : List Str} {pos : Pos} {scope : Scope} {nt : Nat} {kd : Z.IK} {src : Z.Exs} {cond : Z.Txs} {elt' : Z.Ex} {bd : V → Hp → List V → Prop} (hcalm : X.calm = true) (S : ScOk X scope M xs) (hi : LI X sub Γ E tg iter kd src)
    (hbd : ∀ v H vs, bd v H vs → vs.length = xs.length) (hg : ∀ C s H fp, BindOk (cxB X scope (clOf X.env scope.names []) (M ++ xs) C s H fp) tg X.N.length xs.length bd)
    (hmb : ∀ {ρ H d v τ τ' σ}, RelD X.K ρ H d v → RelL X.K ρ H τ σ → Z.moreT nt d τ = some τ' → ∃ vs, bd v H vs ∧ RelL X.K ρ H τ' (σ ++ vs.map some))
    (hc : ∀ C s H fp, PTs (cxB X scope (clOf X.env scope.names []) (M ++ xs) C s H fp) ifs (upT X.K (Z.wpC sub Γ E cond))) (he : ∀ C s H fp, LE (cxB X scope (clOf X.env scope.names []) (M ++ xs) C s H fp) sub Γ E elt elt')
    (hs : ∀ v, foldedSetIterable iter X.env v = pure v) (hN : X.N.Nodup) (hy : X.N[i]? = some y) (hx : Loc X.env.scope y) (hf : X.fn y = true ∨ X.env.scope.names.lookup y = some .local)
    (hsw : swapsWith (.ListComp elt [⟨tg, iter, ifs, 0⟩] scope pos) (some (.Name y py)) spos.line X.env = pure true) : LS X sub Γ E (.Assign [.Name y py] (.ListComp elt [⟨tg, iter, ifs, 0⟩] scope pos) spos) (.asg i (.comp kd src nt cond elt')) := by
  refine PSw (ps_comp (te := upE X.K (Z.wpE sub Γ E elt')) hcalm S hi hbd hg hc he hs hN hy hx hf hsw) ?_
  rintro D σ H ⟨ρ, h, τ, N, R, L, w, k⟩
  simp only [Z.wpS] at w
  exact comp_weak (xs := xs) hmb σ H _ ⟨ρ, h, τ, _, R, L, w, fun d h1 ρ1 H1 v e1 R1 r1 q1 => k.nx _ h1 ρ1 H1 _ e1 R1 ((L.mono e1).set r1) q1⟩
end
end ZS
set_option linter.all false
set_option maxRecDepth 100000
set_option maxHeartbeats 4000000
namespace ZS
open PySem PySem.Spec PyProof.Rows L2
section
variable [R0]
section
variable {X : Cx} {sub : Nat → Nat → Bool} {Γ : Z.Gam} {E : Z.PX}
theorem zv (i : Nat) {x : Str} {pos : Pos} (hN : X.N[i]? = some x := by rfl) (hv : Vis X.env.scope x := by first | exact Or.inl rfl | exact Or.inr (Or.inl rfl) | exact Or.inr (Or.inr rfl)) (hd : (x == ("__debug__" : Str)) = false := by decide)
    (hcd : (x == ("__classdict__" : Str)) = false := by decide) : LE X sub Γ E (.Name x pos) (.var i) := le_var hN hv hd hcd
theorem zi {n : Int} {k : Nat} {pos : Pos} : LE X sub Γ E (.Constant (.int n) k pos) (.lit (.int n)) := le_lit pe_int fun _ _ => by simp only [RelD]
theorem zb {b : Bool} {k : Nat} {pos : Pos} : LE X sub Γ E (.Constant (.bool b) k pos) (.lit (.bl b)) := le_lit pe_bl fun _ _ => by simp only [RelD]
theorem zs {s : Str} {l : List Nat} {k : Nat} {pos : Pos} (h : s = ⟨l.toArray⟩) (hl : l.length ≤ Z.lim) : LE X sub Γ E (.Constant (.str s) k pos) (.lit (.str l)) := le_lit pe_str fun _ _ => by simp only [RelD]; exact ⟨congrArg V.str h, hl⟩
theorem zu {k : Nat} (hr : Room k X.A) : X.A.units + 200 < cLine := by have := hr.un; omega
theorem zix {k : Nat} {a b : Expr} {a' b' : Z.Ex} {pos : Pos} (hr : Room k X.A) (ha : LE X sub Γ E a a') (hb : LE X sub Γ E b b') (hs : PlainIx b := by intro _ _; rfl) : LE X sub Γ E (.Subscript a b pos) (.prim .idx (.cons a' (.cons b' .nil))) := le_ix (i_idx (zu hr)) ha hb hs
theorem zargs {e : Expr} {es : List Expr} {e' : Z.Ex} {es' : Z.Exs} (he : LE X sub Γ E e e') (hes : LA X sub Γ E es es') (hs : starEach (e :: es) X.env = (false, eval e X.env) :: starEach es X.env := by rfl) : LA X sub Γ E (e :: es) (.cons e' es') := la_cons he hes hs
theorem zcallB {x : Str} {id : String} {e : Expr} {es : List Expr} {es' : Z.Exs} {p : Z.Prim} {q pos : Pos} (hc : CallR X (.builtin id) (rP X.K sub p)) (hm : X.mg x = none) (hv : bootBuiltins x = some (.builtin id)) (ha : LA X sub Γ E (e :: es) es')
    (hg : Gl X x := by rfl) (hn : x ≠ "__name__" := by decide) (hdb : (x == ("__debug__" : Str)) = false := by decide) (he : starEach (e :: es) X.env = (false, eval e X.env) :: starEach es X.env := by rfl) (hpl : (backTo pos (starEach es X.env)).any (·.1) = false := by rfl) :
    LE X sub Γ E (.Call (.Name x q) (e :: es) [] pos) (.prim p es') := le_callB hc hg hm hv ha hn hdb he hpl
theorem zcallT {x : Str} {id : String} {e : Expr} {es : List Expr} {es' : Z.Exs} {p : Z.Prim} {q pos : Pos} (hc : CallR X (.type id) (rP X.K sub p)) (hm : X.mg x = none) (hv : bootBuiltins x = some (.type id)) (ha : LA X sub Γ E (e :: es) es')
    (hg : Gl X x := by rfl) (hn : x ≠ "__name__" := by decide) (hdb : (x == ("__debug__" : Str)) = false := by decide) (he : starEach (e :: es) X.env = (false, eval e X.env) :: starEach es X.env := by rfl) (hpl : (backTo pos (starEach es X.env)).any (·.1) = false := by rfl) :
    LE X sub Γ E (.Call (.Name x q) (e :: es) [] pos) (.prim p es') := le_callTy hc hg hm hv ha hn hdb he hpl
theorem zisi {e : Expr} {e' : Z.Ex} {k : Z.KN} {tn : Str} {p p2 pos : Pos} (hm : X.mg "isinstance" = none) (hmt : X.mg tn = none) (hvt : bootBuiltins tn = some (.type (KNn k))) (he : LE X sub Γ E e e')
    (hk : ∀ c, k ≠ .cls c := by intro _ z; cases z) (hg : Gl X "isinstance" := by rfl) (hgt : Gl X tn := by rfl) (hnn : tn ≠ "__name__" := by decide) (hdd : (tn == ("__debug__" : Str)) = false := by decide)
    (hs : ∀ es, starEach (e :: es) X.env = (false, eval e X.env) :: starEach es X.env := by intro _; rfl) :
    LE X sub Γ E (.Call (.Name "isinstance" p) [e, .Name tn p2] [] pos) (.prim (.isi k) (.cons e' .nil)) := le_isi hk hg hm hgt hmt hvt hnn hdd he hs
theorem zmth {o e : Expr} {es : List Expr} {o' : Z.Ex} {es' : Z.Exs} {m : Z.MK} {p : Z.Prim} {name : Str} {apos cpos : Pos} {id : String} (pa : PlainAttrs (MKn m)) (slot : Slot (MKn m) name id) (hty : typeOf (.builtin id) = pure (.type "method_descriptor"))
    (hm : MtR X id (fun x xs => rP X.K sub p (x :: xs))) (ho : LE X sub Γ E o o') (ha : LA X sub Γ E (e :: es) es') (hmk : m ≠ .dict := by decide) (hmt : m ≠ .tuple := by decide) (hbase : attributeBase o name X.env (eval o X.env) = eval o X.env := by rfl)
    (hfew : ((backTo cpos (starEach (e :: es) X.env)).all (fun x => !x.1) && (backToKw cpos (keywordEach [] X.env)).all (fun x => x.1.isSome)
      && decide ((e :: es).length + ([] : List Keyword).length + (if ([] : List Keyword).isEmpty then 0 else 1) < 30)) = true := by rfl)
    (hline : (apos.endLine == cpos.line) = true := by rfl) (hs : starEach (e :: es) X.env = (false, eval e X.env) :: starEach es X.env := by rfl) (hplain : (backTo cpos (starEach es X.env)).any (·.1) = false := by rfl) :
    LE X sub Γ E (.Call (.Attribute o name apos) (e :: es) [] cpos) (.mth m p o' es') := le_mth hmk hmt pa slot hty hm ho ha hbase hfew hline hs hplain
theorem zmth0 {o : Expr} {o' : Z.Ex} {m : Z.MK} {p : Z.Prim} {name : Str} {apos cpos : Pos} {id : String} (pa : PlainAttrs (MKn m)) (slot : Slot (MKn m) name id) (hty : typeOf (.builtin id) = pure (.type "method_descriptor"))
    (hm : MtR X id (fun x xs => rP X.K sub p (x :: xs))) (ho : LE X sub Γ E o o') (hmk : m ≠ .dict := by decide) (hmt : m ≠ .tuple := by decide) (hbase : attributeBase o name X.env (eval o X.env) = eval o X.env := by rfl) (hline : (apos.endLine == cpos.line) = true := by rfl) :
    LE X sub Γ E (.Call (.Attribute o name apos) [] [] cpos) (.mth m p o' .nil) := le_mth0 hmk hmt pa slot hty hm ho hbase hline
theorem zcall {k i : Nat} {f : Addr} {fd : FuncData} {ps : List Str} {x : Str} {e : Expr} {es : List Expr} {es' : Z.Exs} {p pos : Pos} (hr : Room k X.A)
    (F : FnOk X.prog X.w X.K X.mg X.base CX0 k f fd ps (spUp X.K Γ i)) (hm : X.mg x = some (.ref f)) (hk : PySem.W.keepIn X.K (.ref f) = true) (hb : Binds X.K fd ps [])
    (ha : LA X sub Γ E (e :: es) es') (hg : Gl X x := by rfl) (hdb : (x == ("__debug__" : Str)) = false := by decide) (he : starEach (e :: es) X.env = (false, eval e X.env) :: starEach es X.env := by rfl) (hpl : (backTo pos (starEach es X.env)).any (·.1) = false := by rfl) :
    LE X sub Γ E (.Call (.Name x p) (e :: es) [] pos) (.call i es' []) := le_call F hr hg hm hk hb .nil pass0 (fun _ _ => by simp only [RelDs]) ha hdb he hpl
theorem ztru {a : Expr} {a' : Z.Ex} (ha : LE X sub Γ E a a') (he : ∀ whole, isTrue a X.env whole = (do let v ← whole; standAt a.pos; holding [v] (truthy v)) := by intro _; rfl) : LT X sub Γ E a (.tru a') := lt_tru ha he
theorem isB_cmp {p : Z.Prim} {f : Int → Int → Bool} (hp : Z.prim sub p = Z.pCmp f) (ds : List Z.D) (h : Z.AH) (d : Z.D) (h' : Z.AH) (e : Z.prim sub p ds h = some (d, h')) : ∃ c, d = .bl c := by
  rw [hp] at e
  unfold Z.pCmp at e
  split at e
  · cases e; exact ⟨_, rfl⟩
  · cases e
theorem isB_eq {p : Z.Prim} {n : Bool} (hp : Z.prim sub p = Z.pEq n) (ds : List Z.D) (h : Z.AH) (d : Z.D) (h' : Z.AH) (e : Z.prim sub p ds h = some (d, h')) : ∃ c, d = .bl c := by
  rw [hp] at e
  unfold Z.pEq at e
  split at e
  · rename_i x y
    cases z : Z.eqH h x y with
    | none => rw [z] at e; cases e
    | some b => rw [z] at e; cases e; exact ⟨_, rfl⟩
  · cases e
theorem isB_in {p : Z.Prim} {n : Bool} (hp : Z.prim sub p = Z.pIn n) (ds : List Z.D) (h : Z.AH) (d : Z.D) (h' : Z.AH) (e : Z.prim sub p ds h = some (d, h')) : ∃ c, d = .bl c := by
  rw [hp] at e
  unfold Z.pIn at e
  split at e
  · rename_i x ys
    cases z : Z.inDs x ys with
    | none => rw [z] at e; cases e
    | some b => rw [z] at e; cases e; exact ⟨_, rfl⟩
  · rename_i x ys
    cases z : Z.inDs x ys with
    | none => rw [z] at e; cases e
    | some b => rw [z] at e; cases e; exact ⟨_, rfl⟩
  · rename_i x a
    split at e
    · rename_i ys _
      cases z : Z.inDs x ys with
      | none => rw [z] at e; cases e
      | some b => rw [z] at e; cases e; exact ⟨_, rfl⟩
    · cases z : Z.kkOf x with
      | none => rw [z] at e; cases e
      | some b => rw [z] at e; cases e; exact ⟨_, rfl⟩
    · cases e
  · cases e
theorem zexpr {e : Expr} {e' : Z.Ex} {pos : Pos} (he : LE X sub Γ E e e') (hs : swapsWith e none pos.line X.env = pure false := by rfl) : LS X sub Γ E (.Expr e pos) (.expr e') := ls_expr he hs
theorem zasg (i : Nat) {x : Str} {e : Expr} {e' : Z.Ex} {pos pos' : Pos} (hN : X.N.Nodup) (he : LE X sub Γ E e e') (hi : X.N[i]? = some x := by rfl) (hx : Loc X.env.scope x := by first | exact Or.inl rfl | exact Or.inr rfl) (hs : swapsWith e (some (.Name x pos')) pos.line X.env = pure false := by rfl)
    (hf : X.fn x = true ∨ X.env.scope.names.lookup x = some .local := by first | exact .inl rfl | exact .inr rfl) : LS X sub Γ E (.Assign [.Name x pos'] e pos) (.asg i e') := ls_asg hN hi hx he hs hf
theorem zfor (i : Nat) {iter : Expr} {x : Str} {tpos : Pos} {kd : Z.IK} {src : Z.Exs} {body : List Stmt} {b' : Z.Sms} {pos : Pos} (hp : PassesOwn (model X.prog X.w) X.A X.env X.xe) (hc : X.calm = true) (hN : X.N.Nodup)
    (hit : LI X sub Γ E (.Name x tpos) iter kd src) (hb : LSs X sub Γ E body b') (hi : X.N[i]? = some x := by rfl) (hx : Loc X.env.scope x := by first | exact Or.inl rfl | exact Or.inr rfl) (hf : X.fn x = true ∨ X.env.scope.names.lookup x = some .local := by first | exact .inl rfl | exact .inr rfl)
    (hs : ∀ x, foldedSetIterable iter X.env x = pure x := by intro _; rfl) : LS X sub Γ E (.For (.Name x tpos) iter body [] pos) (.forr [i] kd src b') := ls_for (tg := iter) hp hc hN hi hx hf hit hb hs
noncomputable def scOkB (N M xs : List Str) (sc0 scope : Scope) : Bool :=
  decide (scope.kind = .function) && decide ((M ++ xs).Nodup) && decide (M.length = N.length)
    && (M.zip N).all (fun p => decide (scope.names.lookup p.1 = none) || (decide (p.1 = p.2) && !decide (scope.names.lookup p.1 = some .local)))
    && scope.names.all (fun y => decide (y.2 ≠ .cell) && (decide (y.2 ≠ .free) || decide (sc0.names.lookup y.1 = some .cell) || decide (sc0.names.lookup y.1 = some .free)) && (decide (y.2 ≠ .local) || decide (scope.names.lookup y.1 = some .local)))
    && xs.all (fun x => decide (scope.names.lookup x = some .local))
theorem ScOk.of {N M xs : List Str} {sc0 scope : Scope} (h : scOkB N M xs sc0 scope = true) (hN : X.N = N) (hs : X.env.scope = sc0) : ScOk X scope M xs := by
  unfold scOkB at h
  simp only [Bool.and_eq_true, decide_eq_true_eq, List.all_eq_true, Bool.or_eq_true] at h
  obtain ⟨⟨⟨⟨⟨h1, h2⟩, h3⟩, h4⟩, h5⟩, h6⟩ := h
  refine ⟨h1, h2, by rw [hN]; exact h3, fun p hp => ?_, fun y hy => (h5 y hy).1.1, fun y hy e => ?_, h6, fun y hy e => ?_⟩
  · rw [hN] at hp
    rcases h4 p hp with z | z
    · exact .inl z
    · exact .inr ⟨z.1, by simpa using z.2⟩
  · show X.env.scope.names.lookup y.1 = _ ∨ X.env.scope.names.lookup y.1 = _
    rw [hs]
    rcases (h5 y hy).1.2 with (z | z) | z
    · exact absurd e z
    · exact .inl z
    · exact .inr z
  · rcases (h5 y hy).2 with z | z
    · exact absurd e z
    · exact z
theorem zcomp1 (N M : List Str) (sc0 : Scope) {x : Str} {px : Pos} {elt iter : Expr} {ifs : List Expr} {pos : Pos} {scope : Scope} {kd : Z.IK} {src : Z.Exs} {cond : Z.Txs} {elt' : Z.Ex} (hcalm : X.calm = true) (hi : LI X sub Γ E (.Name x px) iter kd src)
    (hc : ∀ C s H fp, PTs (cxB X scope (clOf X.env scope.names []) (M ++ [x]) C s H fp) ifs (upT X.K (Z.wpC sub Γ E cond))) (he : ∀ C s H fp, LE (cxB X scope (clOf X.env scope.names []) (M ++ [x]) C s H fp) sub Γ E elt elt')
    (hS : scOkB N M [x] sc0 scope = true := by decide +kernel) (hN : X.N = N := by rfl) (hs0 : X.env.scope = sc0 := by rfl)
    (hs : ∀ v, foldedSetIterable iter X.env v = pure v := by intro _; rfl) : LE X sub Γ E (.ListComp elt [⟨.Name x px, iter, ifs, 0⟩] scope pos) (.comp kd src 1 cond elt') := by
  have S := ScOk.of hS hN hs0
  refine le_comp (bd := bd1) hcalm S hi (fun v H vs e => by rw [e]; rfl) (fun C s H fp => bind_name S.nd ?_ (lookup_relabel_local (S.loc x (by simp)))) (fun r L e => more1 r L e) hc he hs
  show (M ++ [x])[X.N.length]? = _
  rw [← S.len, List.getElem?_append_right (Nat.le_refl _)]; simp
theorem zasgc1 (i : Nat) {y : Str} {py spos : Pos} (hNd : X.N.Nodup) (N M : List Str) (sc0 : Scope) {x : Str} {px : Pos} {elt iter : Expr} {ifs : List Expr} {pos : Pos} {scope : Scope} {kd : Z.IK} {src : Z.Exs} {cond : Z.Txs} {elt' : Z.Ex} (hcalm : X.calm = true) (hi : LI X sub Γ E (.Name x px) iter kd src)
    (hc : ∀ C s H fp, PTs (cxB X scope (clOf X.env scope.names []) (M ++ [x]) C s H fp) ifs (upT X.K (Z.wpC sub Γ E cond))) (he : ∀ C s H fp, LE (cxB X scope (clOf X.env scope.names []) (M ++ [x]) C s H fp) sub Γ E elt elt')
    (hS : scOkB N M [x] sc0 scope = true := by decide +kernel) (hN : X.N = N := by rfl) (hs0 : X.env.scope = sc0 := by rfl)
    (hs : ∀ v, foldedSetIterable iter X.env v = pure v := by intro _; rfl) (hy : X.N[i]? = some y := by rfl) (hly : Loc X.env.scope y := by first | exact Or.inl rfl | exact Or.inr rfl) (hfy : X.fn y = true ∨ X.env.scope.names.lookup y = some .local := by first | exact .inl rfl | exact .inr rfl)
    (hsw : swapsWith (.ListComp elt [⟨.Name x px, iter, ifs, 0⟩] scope pos) (some (.Name y py)) spos.line X.env = pure true := by rfl) : LS X sub Γ E (.Assign [.Name y py] (.ListComp elt [⟨.Name x px, iter, ifs, 0⟩] scope pos) spos) (.asg i (.comp kd src 1 cond elt')) := by
  have S := ScOk.of hS hN hs0
  refine ls_comp (bd := bd1) hcalm S hi (fun v H vs e => by rw [e]; rfl) (fun C s H fp => bind_name S.nd ?_ (lookup_relabel_local (S.loc x (by simp)))) (fun r L e => more1 r L e) hc he hs hNd hy hly hfy hsw
  show (M ++ [x])[X.N.length]? = _
  rw [← S.len, List.getElem?_append_right (Nat.le_refl _)]; simp
theorem zasgc2 (i : Nat) {z : Str} {pz spos : Pos} (hNd : X.N.Nodup) (N M : List Str) (sc0 : Scope) {x y : Str} {px py pt : Pos} {k : Nat} {elt iter : Expr} {ifs : List Expr} {pos : Pos} {scope : Scope} {kd : Z.IK} {src : Z.Exs} {cond : Z.Txs} {elt' : Z.Ex} (hcalm : X.calm = true) (hi : LI X sub Γ E (.Tuple [.Name x px, .Name y py] k pt) iter kd src)
    (hc : ∀ C s H fp, PTs (cxB X scope (clOf X.env scope.names []) (M ++ [x, y]) C s H fp) ifs (upT X.K (Z.wpC sub Γ E cond))) (he : ∀ C s H fp, LE (cxB X scope (clOf X.env scope.names []) (M ++ [x, y]) C s H fp) sub Γ E elt elt')
    (hS : scOkB N M [x, y] sc0 scope = true := by decide +kernel) (hN : X.N = N := by rfl) (hs0 : X.env.scope = sc0 := by rfl)
    (hs : ∀ v, foldedSetIterable iter X.env v = pure v := by intro _; rfl) (hz : X.N[i]? = some z := by rfl) (hlz : Loc X.env.scope z := by first | exact Or.inl rfl | exact Or.inr rfl) (hfz : X.fn z = true ∨ X.env.scope.names.lookup z = some .local := by first | exact .inl rfl | exact .inr rfl)
    (hsw : swapsWith (.ListComp elt [⟨.Tuple [.Name x px, .Name y py] k pt, iter, ifs, 0⟩] scope pos) (some (.Name z pz)) spos.line X.env = pure true := by rfl) : LS X sub Γ E (.Assign [.Name z pz] (.ListComp elt [⟨.Tuple [.Name x px, .Name y py] k pt, iter, ifs, 0⟩] scope pos) spos) (.asg i (.comp kd src 2 cond elt')) := by
  have S := ScOk.of hS hN hs0
  refine ls_comp (bd := bd2 X.K) hcalm S hi (fun v H vs e => by obtain ⟨_, _, _, z⟩ := e; exact z) (fun C s H fp => bind_pair hcalm S.nd ?_ ?_ (lookup_relabel_local (S.loc x (by simp))) (lookup_relabel_local (S.loc y (by simp)))) (fun r L e => more2 r L e) hc he hs hNd hz hlz hfz hsw
  · show (M ++ [x, y])[X.N.length]? = _
    rw [← S.len, List.getElem?_append_right (Nat.le_refl _)]; simp
  · show (M ++ [x, y])[X.N.length + 1]? = _
    rw [← S.len, List.getElem?_append_right (Nat.le_succ _)]; simp
theorem body_ok {body : List Stmt} {df : Z.Def} {N : List Str} {K : PySem.W.Frag} {ρ : List Addr} {h : Z.AH} {H : Hp} {ds : List Z.D} {vs : List V} {Q : VK} {Q' : Z.PV} (hK : X.K = K) (hN : N.length = df.nl) (hp : ds.length = df.np) (J : LSs X sub Γ E body df.body) (R : Rep K ρ h H) (r : RelDs K ρ H ds vs)
    (w : Z.wpSs sub Γ E df.body { nx := fun _ h => Q' .non h, rt := Q' } (ds.map some ++ List.replicate (df.nl - df.np) none) h)
    (k : ∀ d h' ρ' H' v, Ext K ρ H ρ' H' → Rep K ρ' h' H' → RelD K ρ' H' d v → Q' d h' → Q v H') :
    ∃ t, PSs X body t ∧ t { nx := fun _ H' => Q .non H', rt := Q } (L2.start N vs) H := by
  subst hK
  refine ⟨_, J, ρ, h, _, _, R, ?_, w, ⟨fun τ h' ρ' H' σ e R' L q => k _ h' ρ' H' _ e R' (by simp only [RelD]) q, k, fun _ _ _ _ _ _ _ _ q => q.elim, fun _ _ _ _ _ _ _ _ q => q.elim⟩⟩
  have hl := r.length
  refine ⟨by simp [L2.start, hl, hN, ← hp], fun i d e => ?_⟩
  unfold L2.start
  by_cases hi : i < ds.length
  · rw [List.getElem?_append_left (by simpa using hi), List.getElem?_map] at e
    rw [List.getElem?_append_left (by simpa [← hl] using hi), List.getElem?_map]
    cases q : ds[i]? with
    | none => rw [q] at e; cases e
    | some d' =>
      rw [q] at e; cases e
      obtain ⟨v, e1, e2⟩ := r.get q
      exact ⟨v, by rw [e1]; rfl, e2⟩
  · rw [List.getElem?_append_right (by simpa using hi), List.getElem?_replicate] at e
    split at e <;> cases e
end
theorem def_ok {P : Program} {w : World} {K : PySem.W.Frag} {mg : Str → Option Value} {base : Heap} {sub : Nat → Nat → Bool} {Pg : List Z.Def} {x : Str} {st : Stmt} {f : Addr} {fd : FuncData} {N ps : List Str} {k i : Nat} {df : Z.Def} (F : Fun K x x st f fd) (S : FnScope N ps (defScope st)) (hi : Pg[i]? = some df) (hN : N.length = df.nl) (hp : ps.length = df.np)
    (J : ∀ (cdv : Value) (A : Around) (outer : List Env) (s : Shared) (H : Hp) (E : XK) (E' : Z.PX), Room k (A.deeper (envOfC x (defScope st) s.heap.objs.size f cdv)) → LSs (cxOf CX0 P w K mg base N x (defScope st) f cdv A outer s H E).nox sub (Z.wpCall sub Pg k) (Z.EF E') (defBody st) df.body) :
    FnOk P w K mg base CX0 (k + 1) f fd ps (spUp K (Z.wpCall sub Pg (k + 1)) i) := by
  refine F.ok S (fun vs H Q E h => ?_) (fun cdv A outer s H vs Q E hr h => ?_)
  · obtain ⟨ρ, h, ds, Q', E', R, r, w, kk⟩ := h
    simp only [Z.wpCall, hi] at w
    rw [← r.length, hp]; exact w.1
  · obtain ⟨ρ, h, ds, Q', E', R, r, w, kk⟩ := h
    simp only [Z.wpCall, hi] at w
    exact body_ok (sub := sub) (Γ := Z.wpCall sub Pg k) (E := Z.EF E') (df := df) rfl hN w.1 (J cdv A outer s H E E' hr) R r w.2 kk
theorem def_no {P : Program} {w : World} {K : PySem.W.Frag} {mg : Str → Option Value} {base : Heap} {sub : Nat → Nat → Bool} {Pg : List Z.Def} {f : Addr} {fd : FuncData} {ps : List Str} {i : Nat} : FnOk P w K mg base CX0 0 f fd ps (spUp K (Z.wpCall sub Pg 0) i) := by
  have no : ∀ vs H Q E, ¬ spUp K (Z.wpCall sub Pg 0) i vs H Q E := fun vs H Q E h => by
    obtain ⟨ρ, h, ds, Q', E', R, r, w, kk⟩ := h
    simp only [Z.wpCall] at w
  exact ⟨fun vs H Q E h => absurd h (no vs H Q E), fun A outer s H args us vs Q E _ _ _ _ h => absurd h (no vs H Q E)⟩
theorem bt_len : bootBuiltins "len" = some (.builtin "len") := by decide +kernel
theorem bt_sorted : bootBuiltins "sorted" = some (.builtin "sorted") := by decide +kernel
theorem bt_sum : bootBuiltins "sum" = some (.builtin "sum") := by decide +kernel
theorem bt_list : bootBuiltins "list" = some (.type "list") := by decide +kernel
theorem bt_tuple : bootBuiltins "tuple" = some (.type "tuple") := by decide +kernel
theorem bt_int : bootBuiltins "int" = some (.type "int") := by decide +kernel
theorem bt_bool : bootBuiltins "bool" = some (.type "bool") := by decide +kernel
theorem bt_str : bootBuiltins "str" = some (.type "str") := by decide +kernel
theorem bt_set : bootBuiltins "set" = some (.type "set") := by decide +kernel
theorem bt_enumerate : bootBuiltins "enumerate" = some (.type "enumerate") := by decide +kernel
theorem rel_ints {K : PySem.W.Frag} {ρ : List Addr} {H : Hp} : ∀ ns : List Int, RelDs K ρ H (ns.map .int) (ns.map V.int)
  | [] => by simp only [List.map_nil, RelDs]
  | n :: ns => by simp only [List.map_cons, RelDs]; exact ⟨_, _, rfl, by simp only [RelD], rel_ints ns⟩
end
theorem ext_nil {H : Hp} {K : PySem.W.Frag} : Ext K [] (fun _ => none) [] H := ⟨(fun _ _ e => e), (fun _ _ e => by cases e), (fun _ _ _ e => by cases e)⟩
noncomputable abbrev R0.nil : R0 := ⟨[], fun _ => none⟩
theorem sp_entry {K : PySem.W.Frag} {H : Hp} {a : Addr} {ns : List Int} {sub : Nat → Nat → Bool} {Pg : List Z.Def} {k i : Nat} (hO : Only H) (hS : SqL K H a (ns.map V.int)) (hZ : ∀ o, K.lookup a = some o → o.slots = #[]) (w : Z.wpCall sub Pg k i [.rol (ns.map .int)] [] (fun d _ => d = .bl true) fun _ _ => False) :
    @spUp R0.nil K (Z.wpCall sub Pg k) i [.ref a] H (fun v _ => v = .bl true) fun _ _ _ => False := by
  letI : R0 := R0.nil
  refine ⟨[], [], [.rol (ns.map .int)], _, fun _ _ => False, ⟨rfl, List.nodup_nil, ext_nil, fun n o e => by simp at e⟩, .one ?_, w, fun d h' ρ' H' v e R r q => ?_⟩
  · simp only [RelD]
    refine ⟨a, _, rfl, ?_, rel_ints ns⟩
    rcases hS with (h | ⟨o, h⟩) | h
    · rcases hO a with z | ⟨o, xs, z⟩
      · rw [z] at h; cases h
      · rw [z] at h; cases h
    · exact .inl ⟨o, h⟩
    · obtain ⟨o, its, n, h1, h2, h3, h4, h5, h6⟩ := h
      exact .inr ⟨o, its, n, h1, h2, h3, h4, h5, h6, hZ o h1⟩
  · subst q
    simpa only [RelD] using r
theorem walkZ {l : PySem.W.OpenLaw} {kk i : Nat} {sub : Nat → Nat → Bool} {Pg : List Z.Def} {q : Program} {loose : List Str} {XP : (Str → Option Value) → Heap → Prop} {YP : World → Heap → Prop} {d : DefRec} {K : Params → PySem.W.Frag} (hn : l.most = some 63) (hdf : d.params.defaults = []) (hr : Room kk callerA)
    (hY : ∀ (w : World) (h : Heap), YP w h → (K w.params).In h)
    (hw : ∀ ns : List Int, ns.length ≤ 63 → Z.wpCall sub Pg kk i [.rol (ns.map .int)] [] (fun d _ => d = .bl true) fun _ _ => False)
    (F : ∀ (w : World) (mg : Str → Option Value) (fa : Addr) (h : Heap), (K w.params).In h → h.Ns mainGlobals mg → mg d.name = some (.ref fa) →
      ∃ fd : FuncData, (∀ (s : Shared) (u : Value), BindsTo s fd ⟨[u], []⟩ [("script", u)]) ∧ ∀ base : Heap, (K w.params).In base → base.Ns mainGlobals mg → FnOk l.prog w (K w.params) mg base CX0 kk fa fd ["script"] (@spUp R0.nil (K w.params) (Z.wpCall sub Pg kk) i)) :
    PySem.W.WalkO q loose XP YP l.row.toRowW d [] (fun f vs => PySem.call f vs) :=
  L2.walk_of (n := 63) (k := kk) (x := "script") (CX := fun _ => CX0) (sp := fun w => @spUp R0.nil (K w.params) (Z.wpCall sub Pg kk) i) hn (by decide) hdf hr hY F (fun _ _ a ns hl hO hS hZ => sp_entry hO hS hZ (hw ns hl)) fun _ _ _ _ _ z => z
end ZS
set_option linter.all false
set_option maxRecDepth 100000
set_option maxHeartbeats 4000000
namespace ZS
open PySem PySem.Spec PyProof.Rows L2
variable [R0]
section
variable {X : Cx} {sub : Nat → Nat → Bool} {Γ : Z.Gam} {E : Z.PX}
theorem bAnd_eq (x y : Int) : Builtin.bitAnd x y = Z.bAnd x y := by
  have h1 : ∀ a b : Nat, a &&& b ≤ a := fun a b => Nat.and_le_left
  cases x with
  | ofNat a =>
    cases y with
    | ofNat b => rfl
    | negSucc b =>
      show (a : Int) - ((a &&& (Builtin.bitNot (Int.negSucc b)).toNat : Nat) : Int) = ((a - (a &&& b) : Nat) : Int)
      have e : (Builtin.bitNot (Int.negSucc b)).toNat = b := by unfold Builtin.bitNot; omega
      rw [e]
      have := h1 a b
      omega
  | negSucc a =>
    cases y with
    | ofNat b =>
      show (b : Int) - ((b &&& (Builtin.bitNot (Int.negSucc a)).toNat : Nat) : Int) = ((b - (b &&& a) : Nat) : Int)
      have e : (Builtin.bitNot (Int.negSucc a)).toNat = a := by unfold Builtin.bitNot; omega
      rw [e]
      have := h1 b a
      omega
    | negSucc b =>
      show Builtin.bitNot ((((Builtin.bitNot (Int.negSucc a)).toNat ||| (Builtin.bitNot (Int.negSucc b)).toNat : Nat) : Int)) = Int.negSucc (a ||| b)
      have e : (Builtin.bitNot (Int.negSucc a)).toNat = a := by unfold Builtin.bitNot; omega
      have e' : (Builtin.bitNot (Int.negSucc b)).toNat = b := by unfold Builtin.bitNot; omega
      rw [e, e']
      unfold Builtin.bitNot
      omega
theorem o_band : OpR X (binaryOp .BitAnd) (fun x y => rP X.K sub .band [x, y]) := o_int2 rfl (by
  have h := op_and (X := X)
  simp only [bAnd_eq] at h
  exact h)
theorem o_shl : OpR X (binaryOp .LShift) (fun x y => rP X.K sub .shl [x, y]) := OpRw op_shl (by
  rintro x y H Q ⟨ρ, h, ds, d, h', R, r, q, k⟩
  obtain ⟨d1, d2, rfl, r1, r2⟩ := rel2' r
  change Z.pShl _ _ = _ at q
  unfold Z.pShl at q
  split at q
  · rename_i e; cases e
    split at q
    · rename_i hc
      cases q
      simp only [RelD] at r1 r2
      subst r1 r2
      exact ⟨_, _, rfl, rfl, ⟨hc.1, hc.2.1, by have := hc.2.2; omega⟩, k ρ H _ .refl R (by simp only [RelD])⟩
    · cases q
  · cases q)
theorem o_shr : OpR X (binaryOp .RShift) (fun x y => rP X.K sub .shr [x, y]) := OpRw op_shr (by
  rintro x y H Q ⟨ρ, h, ds, d, h', R, r, q, k⟩
  obtain ⟨d1, d2, rfl, r1, r2⟩ := rel2' r
  change Z.pShr _ _ = _ at q
  unfold Z.pShr at q
  split at q
  · rename_i e; cases e
    split at q
    · rename_i hc
      cases q
      simp only [RelD] at r1 r2
      subst r1 r2
      exact ⟨_, _, rfl, rfl, hc, k ρ H _ .refl R (by simp only [RelD])⟩
    · cases q
  · cases q)
theorem m_bitlen : MtR X "int.bit_length" (fun x xs => rP X.K sub .bitlen (x :: xs)) := by
  intro pins s σ H x xs v us Q I rx rxs ⟨ρ, h, ds, d, h', R, r, q, k⟩
  change Z.pBitlen _ _ = _ at q
  unfold Z.pBitlen at q
  split at q
  · rename_i i
    cases q
    simp only [RelDs] at r
    obtain ⟨y, t, e, r1, rfl⟩ := r
    cases e
    simp only [RelD] at r1
    subst r1
    obtain ⟨tk, rfl⟩ := rx
    cases rxs
    refine call_int_bit_length ⟨.int _, H, I.tok _, ⟨_, rfl⟩, ?_⟩
    have e : (Builtin.Int.intBits i : Nat) = Z.bLen i := by
      unfold Builtin.Int.intBits Z.bLen
      by_cases z : i = 0
      · subst z; rfl
      · simp [z]
    rw [e]
    exact k ρ H _ .refl R (by simp only [RelD])
  · cases q
end
section
variable {X : Cx} {sub : Nat → Nat → Bool} {Γ : Z.Gam} {E : Z.PX}
theorem strs_pairs : ∀ {us : List Value} {ss : List Str}, StrsAre us ss → ∃ l : List (Str × Tok), us = strValues l ∧ l.map (·.1) = ss
  | _, _, .nil => ⟨[], rfl, rfl⟩
  | _, _, .cons s t h => by
    obtain ⟨l, rfl, e⟩ := strs_pairs h
    exact ⟨(s, t) :: l, rfl, by simp [e]⟩
theorem joinS_eq (sep : Z.S) : ∀ ss : List Z.S, Str.join ⟨sep.toArray⟩ (ss.map fun s => (⟨s.toArray⟩ : Str)) = ⟨(Z.joinS sep ss).toArray⟩
  | [] => rfl
  | [x] => rfl
  | x :: y :: r => by
    have ih := joinS_eq sep (y :: r)
    show (⟨x.toArray⟩ ++ ⟨sep.toArray⟩ ++ Str.join ⟨sep.toArray⟩ ((y :: r).map fun s => (⟨s.toArray⟩ : Str)) : Str) = _
    rw [ih, strApp, strApp]; rfl
theorem m_join : MtR X "str.join" (fun x xs => rP X.K sub .join (x :: xs)) := by
  intro pins s σ H x xs v us Q I rx rxs ⟨ρ, h, ds, d, h', R, r, q, k⟩
  change Z.pJoin _ _ = _ at q
  unfold Z.pJoin at q
  split at q
  · rename_i sep n
    simp only [RelDs] at r
    obtain ⟨x', t, e, r1, y', t2, e2, r2, rfl⟩ := r
    subst e2; cases e
    simp only [RelD] at r1
    obtain ⟨rfl, _⟩ := r1
    obtain ⟨tk, rfl⟩ := rx
    obtain ⟨u, rfl, ru⟩ := rxs.one
    split at q
    · rename_i zs e1
      obtain ⟨a, ys, rfl, hn, ha, rs⟩ := lstAt R r2 e1
      cases ru
      cases es : Z.strsOf zs with
      | none => rw [es] at q; cases q
      | some ss =>
        rw [es, Option.bind_some] at q
        split at q
        · rename_i hl
          cases q
          obtain ⟨its, vv, pl, _⟩ := I.list (.of ha)
          obtain ⟨sa, hlim⟩ := strs_rel rs vv es
          obtain ⟨l, rfl, el⟩ := strs_pairs sa
          have hJ : JoinOk ⟨sep.toArray⟩ (ss.map fun s => (⟨s.toArray⟩ : Str)) = true := by
            unfold JoinOk Builtin.Str.tooLong
            rw [StrLaws.joinTotal]
            have e1 : ((ss.map fun s => (⟨s.toArray⟩ : Str)).map (·.length)).sum = (ss.map fun s => s.length).sum := by
              rw [List.map_map]
              congr 1
            rw [e1, List.length_map, strLen, ← limE]
            simp; omega
          refine SC.join pl.isList el hJ fun t' kk => ?_
          refine ⟨.str ⟨(Z.joinS sep ss).toArray⟩, H, I.tok _, ⟨t', ?_⟩, k ρ H _ .refl R ?_⟩
          · show Value.str (Builtin.Str.glued _ _) t' = _
            rw [StrLaws.glued_eq_join, joinS_eq]
          · simp only [RelD, true_and]
            have h1 := StrLaws.join_length_le ⟨sep.toArray⟩ (ss.map fun s => (⟨s.toArray⟩ : Str))
            rw [joinS_eq, strLen, List.length_map, strLen] at h1
            have e1 : ((ss.map fun s => (⟨s.toArray⟩ : Str)).map (·.length)).sum = (ss.map fun s => s.length).sum := by
              rw [List.map_map]
              congr 1
            rw [e1] at h1
            exact Nat.le_trans h1 hl
        · cases q
    · cases q
  · cases q
theorem ints_rel {K : PySem.W.Frag} {ρ : List Addr} {H : Hp} : ∀ {xs : List Z.D} {ys : List V} {its : List Value} {ns : List Int}, RelDs K ρ H xs ys → Vals ys its → Z.intsOf xs = some ns → IntsAre its ns
  | [], ys, its, ns, r, v, e => by simp only [RelDs] at r; subst r; cases v; cases e; exact .nil
  | x :: xs, ys, its, ns, r, v, e => by
    simp only [RelDs] at r
    obtain ⟨y, t, rfl, r1, r2⟩ := r
    cases v with
    | cons v1 v2 =>
      cases x <;> simp only [Z.intsOf] at e <;> first | (cases e; done) | skip
      cases e' : Z.intsOf xs with
      | none => rw [e'] at e; cases e
      | some ns' =>
        rw [e'] at e; cases e
        simp only [RelD] at r1
        subst r1
        obtain ⟨tk, rfl⟩ := v1
        exact .cons _ _ (ints_rel r2 v2 e')
theorem c_sum (hc : X.calm = true) : CallR X (.builtin "sum") (rP X.K sub .sum1) := by
  intro pins s σ H xs us Q I rv ⟨ρ, h, ds, d, h', R, r, q, k⟩
  change Z.pSum1 ds h = some (d, h') at q
  unfold Z.pSum1 at q
  split at q
  · rename_i n
    simp only [RelDs] at r
    obtain ⟨y, t, rfl, r, rfl⟩ := r
    obtain ⟨u, rfl, ru⟩ := vals1 rv
    split at q
    · rename_i zs e1
      obtain ⟨a, ys, rfl, hn, ha, rs⟩ := lstAt R r e1
      cases ru
      cases es : Z.intsOf zs with
      | none => rw [es] at q; cases q
      | some ns =>
        rw [es] at q; cases q
        obtain ⟨its, vv, pl, _⟩ := I.list (.of ha)
        have hi := ints_rel rs vv es
        obtain ⟨xs, e⟩ := hi.allInts.items
        have hl := pl.isList
        rw [e] at hl
        refine sum_intListG (I.ok.hd hc) hl fun h' tk t' hk => ⟨.int ns.sum, H, I.kept hk, ⟨t', ?_⟩, k ρ H _ .refl R (by simp only [RelD])⟩
        rw [preSum_eq, List.take_of_length_le (by simp), ← nums_intItems, ← e]
        show Value.int (numsOf its).sum t' = _
        rw [hi.numsOf]
    · cases q
  · cases q
end
end ZS
set_option linter.all false
set_option maxRecDepth 100000
set_option maxHeartbeats 4000000
namespace ZS
open PySem PySem.Spec PyProof.Rows L2
variable [R0]
section
variable {pg : Program} {wd : World} {A : Around} {E : Value → Shared → Prop} {s : Shared}
theorem next_tup {I tu : Addr} {i : Nat} {its : Array Value} {x : Value} {Q : Value → Shared → Prop} (a : s.heap.IsTupleIter I tu i) (b : s.heap.IsTuple tu its) (e : its[i]? = some x)
    (q : ∀ h', h'.IsTupleIter I tu (i + 1) → Heap.SameBut I s.heap h' → Q x { s with heap := h' }) : wpAny (model pg wd) A (Builtin.SmallTypes.nextOf (.ref I)) Q E s := by
  obtain ⟨ob, eo, ec, ed⟩ := id a
  obtain ⟨ot, et, _, nt, edt⟩ := b
  unfold Builtin.SmallTypes.nextOf
  refine wpAny_bind (wpAny_callSpecial?_slot (name := Str.ofString "__next__") a.typeIs PySem.F.slot_tuple_iterator_next (wpAny_call_entry PySem.F.slot_tuple_iterator_next a.typeIs PySem.F.entry_tuple_iterator_next ?_ (PySem.F.args_tuple_iterator_next_1 _)))
  show wpAny _ _ (field (.ref I) 0 >>= _) _ _ s
  refine wpAny_bind (wpAny_field eo ed (x := .ref tu) rfl ?_)
  show wpAny _ _ (if (Value.ref tu == Value.none) = true then _ else _) _ _ s
  rw [if_neg (show ¬ ((Value.ref tu == Value.none) = true) from Bool.false_ne_true)]
  show wpAny _ _ (field (.ref I) 1 >>= _) _ _ s
  refine wpAny_bind (wpAny_field eo ed (x := .int i 0) rfl ?_)
  show wpAny _ _ (seqItems? (.ref tu) >>= _) _ _ s
  refine wpAny_bind (wpAny_seqItems et edt ?_)
  simp only [Int.toNat_natCast, e]
  refine wpAny_bind (wpAny_setField eo ed (by simp) (wpAny_pure ⟨x, rfl, wpAny_pure (q _ ⟨_, Heap.get?_update_self _ eo (Obj.isFreed_of_fields (Obj.data_mapFields ed _)), (Obj.cls_mapFields ..).trans ec, ?_⟩ (Heap.SameBut.update ..))⟩))
  rw [Obj.data_mapFields ed]; simp [rawInt]
theorem next_tup_end {I tu : Addr} {i : Nat} {its : Array Value} {Q : Value → Shared → Prop} (hq : A.handled = none) (a : s.heap.IsTupleIter I tu i) (b : s.heap.IsTuple tu its) (e : its[i]? = none)
    (k : ∀ h' x, Heap.ExtBut I s.heap h' → (∃ o, h'.get? x = some o ∧ o.cls = .type "StopIteration") → E (.ref x) { s with heap := h' }) : wpAny (model pg wd) A (Builtin.SmallTypes.nextOf (.ref I)) Q E s := by
  obtain ⟨ob, eo, ec, ed⟩ := id a
  obtain ⟨ot, et, _, nt, edt⟩ := b
  unfold Builtin.SmallTypes.nextOf
  refine wpAny_bind (wpAny_callSpecial?_slot (name := Str.ofString "__next__") a.typeIs PySem.F.slot_tuple_iterator_next (wpAny_call_entry PySem.F.slot_tuple_iterator_next a.typeIs PySem.F.entry_tuple_iterator_next ?_ (PySem.F.args_tuple_iterator_next_1 _)))
  show wpAny _ _ (field (.ref I) 0 >>= _) _ _ s
  refine wpAny_bind (wpAny_field eo ed (x := .ref tu) rfl ?_)
  show wpAny _ _ (if (Value.ref tu == Value.none) = true then _ else _) _ _ s
  rw [if_neg (show ¬ ((Value.ref tu == Value.none) = true) from Bool.false_ne_true)]
  show wpAny _ _ (field (.ref I) 1 >>= _) _ _ s
  refine wpAny_bind (wpAny_field eo ed (x := .int i 0) rfl ?_)
  show wpAny _ _ (seqItems? (.ref tu) >>= _) _ _ s
  refine wpAny_bind (wpAny_seqItems et edt ?_)
  simp only [Int.toNat_natCast, e]
  refine wpAny_bind (wpAny_rule (wpAny_bind (wpAny_setField eo ed (by simp) ?_)))
  show wpAny _ _ (newExc (.type "StopIteration") [] >>= _) _ _ _
  refine wpAny_bind ?_
  simp only [newExc, newTuple]
  refine wpAny_bind (wpAny_newObj_type ?_ (by size_fits))
  refine wpAny_bind (m := firstArgMember _ _) (wpAny_of_eq (a := Value.none) (by first | rfl | (simp only [firstArgMember]; rfl)) ?_)
  refine wpAny_newObj_type ?_ (by size_fits)
  simp only [raiseNew]
  refine wpAny_bind (wpAny_handled ?_)
  first | rw [show A.in1.handled = none from hq] | rw [hq]
  exact wpAny_bind (wpAny_pure (wpAny_throw (k _ _ (((Heap.SameBut.update ..).extBut.push _).push _) ⟨_, Heap.get?_push_size _ rfl, rfl⟩)))
end
theorem draws_tup {pg : Program} {wd : World} {A : Around} (hq : A.handled = none) (I tu : Addr) (ne : tu ≠ I) (its : Array Value) :
    Draws pg wd A I [I, tu] its.size (fun i v => its[i]? = some v) (fun i h => h.IsTupleIter I tu i ∧ h.IsTuple tu its) where
  live := fun _ _ st => let ⟨o, ho, _⟩ := st.1; ⟨o, ho⟩
  frame := fun _ _ _ st hk => ⟨let ⟨o, ho, r⟩ := st.1; ⟨o, hk I (by simp) o ho, r⟩, let ⟨o, ho, r⟩ := st.2; ⟨o, hk tu (by simp) o ho, r⟩⟩
  item := fun i s Q E hi st hQ => next_tup st.1 st.2 (x := its[i]) (by simp [hi]) fun h' a b => hQ _ h' s.toks (by simp [hi]) ⟨a, st.2.extBut b.extBut ne⟩ b
  done := fun s Q E st hE => next_tup_end hq st.1 st.2 (by simp) hE
theorem draws_tup_end {pg : Program} {wd : World} {A : Around} (hq : A.handled = none) (I tu : Addr) (its : Array Value) {n : Nat} (e : its[n]? = none) :
    Draws pg wd A I [I, tu] n (fun _ _ => True) (fun i h => i = n ∧ h.IsTupleIter I tu i ∧ h.IsTuple tu its) where
  live := fun _ _ st => let ⟨o, ho, _⟩ := st.2.1; ⟨o, ho⟩
  frame := fun _ _ _ st hk => ⟨st.1, let ⟨o, ho, r⟩ := st.2.1; ⟨o, hk I (by simp) o ho, r⟩, let ⟨o, ho, r⟩ := st.2.2; ⟨o, hk tu (by simp) o ho, r⟩⟩
  item := fun i s Q E hi st hQ => absurd hi (by rw [st.1]; exact Nat.lt_irrefl _)
  done := fun s Q E st hE => next_tup_end hq st.2.1 st.2.2 e hE
theorem meets_enum_tup (l : Addr) (items : Array Value) (n : Nat) (dd : Option Addr) (sl : Array (Option Value)) :
    Meets (Builtin.«enumerate.__new__» ⟨[.type "enumerate", .ref l], []⟩) (fun _ R s => s.heap.get? l = some { cls := .type "tuple", dict := dd, data := .seq items n, slots := sl } ∧
      R (.ok (.ret (.ref (s.heap.push { cls := .type "tuple_iterator", data := .fields #[.ref l, .int 0 0] }).objs.size)))
        { s with heap := (s.heap.push { cls := .type "tuple_iterator", data := .fields #[.ref l, .int 0 0] }).push { cls := .type "enumerate", data := .fields #[.none, .bool false, .ref s.heap.objs.size, rawInt 0, .none, .none] } }) :=
  .of_wp fun prog w A R s h => by
    obtain ⟨hp, g, d, tk, os⟩ := s; obtain ⟨el, h⟩ := h
    have hsub := sub_enumerate
    have eL : Heap.IsTuple (Shared.heap ⟨hp, g, d, tk, os⟩) l items := ⟨_, el, rfl, n, rfl⟩
    wp_walk using wpAny_loadPart' el
    refine wpAny_stack_any fun st => wpAny_pure ?_
    split
    · rename_i c _ _ _ _ _
      cases (c == Value.type "enumerate") <;> (wp_walk using wpAny_loadPart' el, wpAny_pyIter_tuple eL; exact ⟨_, rfl, h⟩)
    · wp_walk using wpAny_loadPart' el, wpAny_pyIter_tuple eL
      exact ⟨_, rfl, h⟩
section
variable {prog : Program} {w : World} {A : Around} {E : Value → Shared → Prop} {s : Shared}
theorem call_enum_tup {l : Addr} {items : Array Value} {Q : Value → Shared → Prop} (hL : s.heap.IsTuple l items)
    (h : ∀ h', IsEnum h' (s.heap.objs.size + 1) s.heap.objs.size 0 .none → h'.IsTupleIter s.heap.objs.size l 0 → h'.objs.size = s.heap.objs.size + 2 →
      (∀ b o, s.heap.get? b = some o → h'.get? b = some o) → Q (.ref (s.heap.objs.size + 1)) { s with heap := h' }) :
    wpAny (model prog w) A (call (.type "enumerate") [.ref l]) Q E s := by
  obtain ⟨⟨c, dct, dt, sl⟩, hl, hc, n, hd⟩ := hL
  replace hc : c = .type "tuple" := hc
  replace hd : dt = .seq items n := hd
  subst hc hd
  refine callType_new PySem.F.called_enumerate (by decide) (PySem.F.typeCall_enumerate_1 _) (PySem.F.newCall_enumerate_1 _) (fun obj => PySem.F.args_object_init_2 obj _) PySem.F.entry_enumerate_new
    (meets_enum_tup l items n dct sl) ⟨hl, ?_⟩
  have hz : (s.heap.push { cls := .type "tuple_iterator", data := .fields #[.ref l, .int 0 0] }).objs.size = s.heap.objs.size + 1 := Heap.size_push ..
  show _ ∧ _
  rw [hz]
  have he : IsEnum ((s.heap.push { cls := .type "tuple_iterator", data := .fields #[.ref l, .int 0 0] }).push
      { cls := .type "enumerate", data := .fields #[.none, .bool false, .ref s.heap.objs.size, rawInt 0, .none, .none] }) (s.heap.objs.size + 1) s.heap.objs.size 0 .none := by
    have := Heap.get?_push_size (s.heap.push { cls := .type "tuple_iterator", data := .fields #[.ref l, .int 0 0] })
      (o := { cls := .type "enumerate", data := .fields #[.none, .bool false, .ref s.heap.objs.size, rawInt 0, .none, .none] }) rfl
    rw [hz] at this; exact this
  refine ⟨⟨_, he, rfl⟩, h _ he ⟨_, Heap.get?_push_of_some _ (Heap.get?_push_size _ rfl), rfl, rfl⟩ (by rw [Heap.size_push, hz]) fun b o x => Heap.get?_push_of_some _ (Heap.get?_push_of_some _ x)⟩
end
section
variable {X : Cx} {pins : List (Addr × Obj)} {σ : L2.St} {H : Hp} {s : Shared}
theorem inv_walked {ch : List Addr} {T : Addr} {xs : List V} {t' : Nat} {h' : Heap} (I : Inv X pins σ H s) (hf : ∀ b ∈ ch, FpOk X pins H b) (k : ∀ b o, b ∉ ch → s.heap.get? b = some o → h'.get? b = some o) (hT : s.heap.objs.size ≤ T)
    (new : ObjOk X.prog X.w (upd H T (.tup xs)) h' T (.tup xs)) : Inv X pins σ (upd H T (.tup xs)) { s with heap := h', toks := t' } := by
  have hn : H T = none := I.hok.fresh hT
  have nit : ∀ b u, H b = some u → b ∉ ch := fun b u e z => by rw [(hf b z).1] at e; cases e
  have neT : ∀ b u, H b = some u → b ≠ T := fun b u e => ne_of_none e hn
  refine I.step (g' := s.gens) (d' := s.drawn) (ch := ch) (fun b hb => ?_) (fun b o _ _ hc e _ => k b o hc e) (fun b o _ _ hc e _ => ⟨o.slots, k b o hc e⟩) (fun b o _ e n => ?_)
    (fun b o hc e => ⟨o, k b o hc e⟩) (fun b xs e => ?_) (fun b o u e => ?_) (fun b ps e => ⟨#[], ?_⟩) (fun m hm => ?_) (fun b u e => ?_) I.bare
  · obtain ⟨_, f1, _, f3, f4, f5⟩ := hf b hb
    exact ⟨f3, f1, f4, f5⟩
  · rw [upd_ne (Nat.ne_of_lt (Nat.lt_of_lt_of_le (Heap.lt_size e) hT))]; exact n
  · rw [upd_ne (neT b _ e)]; exact e
  · rw [upd_ne (neT b _ e)]; exact e
  · rw [upd_ne (neT b _ e), e]; simp
  · obtain ⟨o, es, ep, ho, r⟩ := hm
    exact ⟨o, es, ep, k _ o (fun z => (hf _ z).2.1 rfl) ho, r⟩
  · by_cases hb : b = T
    · subst hb; rw [upd_same] at e; cases e; exact new
    · rw [upd_ne hb] at e
      refine (I.hok b u e).stay (fun c v hc q => k c v ?_ q) (fun c q => by rw [upd_ne (neT c _ q)]; exact q) fun c xs q => by rw [upd_ne (neT c _ q)]; exact q
      rcases hc with z | z
      · rw [z]; exact nit b u e
      · exact nit c _ z
theorem inv_turnedL {ch : List Addr} {t' : Nat} {h' : Heap} (I : Inv X pins σ H s) (hf : ∀ b ∈ ch, FpOk X pins H b) (k : ∀ b o, b ∉ ch → s.heap.get? b = some o → h'.get? b = some o) : Inv X pins σ H { s with heap := h', toks := t' } := by
  have nit : ∀ b u, H b = some u → b ∉ ch := fun b u e z => by rw [(hf b z).1] at e; cases e
  refine I.step (g' := s.gens) (d' := s.drawn) (ch := ch) (fun b hb => ?_) (fun b o _ _ hc e _ => k b o hc e) (fun b o _ _ hc e _ => ⟨o.slots, k b o hc e⟩) (fun b o _ e n => n)
    (fun b o hc e => ⟨o, k b o hc e⟩) (fun b xs e => e) (fun b o u e => e) (fun b ps e => ⟨#[], by rw [e]; simp⟩) (fun m hm => ?_) (fun b u e => ?_) I.bare
  · obtain ⟨_, f1, _, f3, f4, f5⟩ := hf b hb
    exact ⟨f3, f1, f4, f5⟩
  · obtain ⟨o, es, ep, ho, r⟩ := hm
    exact ⟨o, es, ep, k _ o (fun z => (hf _ z).2.1 rfl) ho, r⟩
  · refine (I.hok b u e).stay (fun c v hc q => k c v ?_ q) (fun c q => q) fun c xs q => q
    rcases hc with z | z
    · rw [z]; exact nit b u e
    · exact nit c _ z
end
noncomputable def Ite (K : PySem.W.Frag) (a : Addr) : L2.It :=
  ⟨fun i H => ∃ xs x, SqT K H a xs ∧ xs[i]? = some x, fun i H x H' => ∃ T y, (∀ xs, SqT K H a xs → xs[i]? = some y) ∧ x = .ref T ∧ H T = none ∧ H' = upd H T (.tup [.int i, y]), fun i H => ∃ xs, SqT K H a xs ∧ xs.length ≤ i⟩
theorem turn_enumT {P : Program} {w : World} {K : PySem.W.Frag} {elts : List Expr} {k : Nat} {pos : Pos} (a e it : Addr) (hei : e ≠ it) :
    Turn P w K (.Tuple elts k pos) (Ite K a) [e, it] e (fun i h => (∃ old, IsEnum h e it i old) ∧ h.IsTupleIter it a i) where
  mem := by simp
  obj := fun i h st b hb => by
    obtain ⟨⟨old, he⟩, o, e2, c, d⟩ := st
    have hb' : b = e ∨ b = it := by simpa using hb
    rcases hb' with rfl | rfl
    · exact ⟨_, he, fun v z => by cases z⟩
    · exact ⟨o, e2, fun v z => by rw [d] at z; cases z⟩
  keep := fun i h h' st k => by
    obtain ⟨⟨old, he⟩, st⟩ := st
    exact ⟨⟨old, k e (by simp) _ he⟩, st.at fun o q => k it (by simp) o q⟩
  item := by
    intro X hP hw hK hc i pins s σ H E I hf st hg
    subst hP hw hK
    obtain ⟨xs, x, hq, hx⟩ := hg
    obtain ⟨its, rv, p, hz⟩ := I.tuple hq
    obtain ⟨u, hu, ru⟩ := rv.get hx
    obtain ⟨⟨old, he⟩, hi⟩ := st
    have p' : s.heap.IsTuple a its.toArray := p
    have nea : a ≠ e := by
      rintro rfl
      obtain ⟨o, ho, c, _⟩ := p'
      rw [he] at ho; cases ho
      exact absurd (Value.type.inj c) (by decide)
    have nia : a ≠ it := by
      rintro rfl
      obtain ⟨o, ho, c, _⟩ := p'
      obtain ⟨o', ho', c', _⟩ := hi
      rw [ho'] at ho; cases ho
      rw [c'] at c
      exact absurd (Value.type.inj c) (by decide)
    have hlt : i < its.toArray.size := by
      have := (List.getElem?_eq_some_iff.mp hu).1
      simpa using this
    refine wpAny_pyNext_enum_itemD (draws_tup (A := X.A.in1) (I.ok.hd hc) it a nia its.toArray) he ⟨hi, p'⟩ hlt hei (by simp [hei, Ne.symm nea]) fun y h' tk hP ho hst hT hsz hk => ⟨_, rfl, ?_⟩
    have hy : y = u := by
      have : its[i]? = some y := by simpa using hP
      rw [hu] at this; exact (Option.some.inj this).symm
    subst hy
    refine wpAny_letOwnedTupleGo_enum ho fun h2 he2 hs2 => ?_
    have hlte : e < s.heap.objs.size := Heap.lt_size he
    have hT2 : h2.get? s.heap.objs.size = some { cls := .type "tuple", data := .seq #[.int i tk, y] } := (hs2.2 _ (Nat.ne_of_gt hlte)).trans hT
    have hlti : it < s.heap.objs.size := by obtain ⟨o, z, _⟩ := hi; exact Heap.lt_size z
    have hn : H s.heap.objs.size = none := I.fresh
    have I2 : Inv X pins σ (upd H s.heap.objs.size (.tup [.int i, x])) { s with heap := h2, toks := tk + 1 } := by
      refine inv_walked I hf (fun b o hb q => ?_) (Nat.le_refl _) ?_
      · have h1 : b ≠ e := fun z => hb (by simp [z])
        have h2' : b ≠ it := fun z => hb (by simp [z])
        exact (hs2.2 b h1).trans (hk b o h1 h2' q)
      · exact ⟨show 2 ≤ sizeLine by decide, [.int i tk, y], .cons ⟨tk, rfl⟩ (.cons ru .nil), ⟨⟨_, hT2, rfl, _, rfl⟩, _, hT2, rfl⟩⟩
    refine ⟨.ref s.heap.objs.size, upd H s.heap.objs.size (.tup [.int i, x]), I2, rfl, ⟨_, x, fun ys hy => by rw [I.tuple_inj hy hq]; exact hx, rfl, hn, rfl⟩, ⟨⟨_, by simpa using he2⟩, ?_⟩, fun b hb => ?_⟩
    · exact hst.1.at fun o q => (hs2.2 it (Ne.symm hei)).trans q
    · rw [upd_ne]
      · exact (hf b hb).1
      · have hb' : b = e ∨ b = it := by simpa using hb
        rcases hb' with rfl | rfl
        · exact Nat.ne_of_lt hlte
        · exact Nat.ne_of_lt hlti
  done := by
    intro X hP hw hK hc i pins s σ H E I hf st hg
    subst hP hw hK
    obtain ⟨xs, hq, hx⟩ := hg
    obtain ⟨its, rv, p, hz⟩ := I.tuple hq
    obtain ⟨⟨old, he⟩, hi⟩ := st
    have p' : s.heap.IsTuple a its.toArray := p
    have nia : a ≠ it := by
      rintro rfl
      obtain ⟨o, ho, c, _⟩ := p'
      obtain ⟨o', ho', c', _⟩ := hi
      rw [ho'] at ho; cases ho
      rw [c'] at c
      exact absurd (Value.type.inj c) (by decide)
    have hl := rv.length
    refine wpAny_pyNext_enum_endD (draws_tup_end (A := X.A.in1) (I.ok.hd hc) it a its.toArray (n := i) (by simp; omega)) he ⟨rfl, hi, p'⟩ fun h' eb => ⟨rfl, inv_turnedL (t' := s.toks) I hf fun b o hb q => eb b o (fun z => hb (by simp [z])) q⟩
  self := fun _ _ _ _ _ st h => by
    obtain ⟨⟨old, he⟩, _⟩ := st
    exact wpAny_pyIter_enum he h
theorem itOk_enumX {K : PySem.W.Frag} {ρ : List Addr} {H : Hp} {a : Addr} {xs : List Z.D} {ys : List V} (q : SqT K H a ys) (r : RelDs K ρ H xs ys) : ItOk K ρ H (Z.itEnumX xs) (Ite K a) := by
  intro i ρ1 h1 H1 e1 R1
  have q' := e1.sqT q
  have r' := RelDs.mono e1 _ _ r
  unfold Z.itEnumX
  cases e : xs[i]? with
  | none => exact ⟨ys, q', by rw [← r.length]; exact List.getElem?_eq_none_iff.mp e⟩
  | some d =>
    obtain ⟨y, q1, q2⟩ := r'.get e
    refine ⟨⟨ys, y, q', q1⟩, fun x H' hy => ?_⟩
    obtain ⟨T, y2, hs, rfl, hn, rfl⟩ := hy
    have hyy : RelD K ρ1 H1 d y2 := by
      have := hs ys q'
      rw [q1] at this; cases this; exact q2
    refine ⟨.fresh hn, R1.fresh hn, ?_⟩
    simp only [RelD, RelDs]
    exact ⟨T, _, rfl, .inl (.inl upd_same), _, _, rfl, rfl, _, _, rfl, RelD.mono (.fresh hn) _ _ hyy, rfl⟩
section
variable {X : Cx} {sub : Nat → Nat → Bool} {Γ : Z.Gam} {E : Z.PX}
theorem li_enum1 {elts : List Expr} {k : Nat} {pt : Pos} {a : Expr} {a' : Z.Ex} {p pos : Pos} (hg : Gl X "enumerate") (hm : X.mg "enumerate" = none) (ha : LA X sub Γ E [a] (.cons a' .nil)) (hs : starEach [a] X.env = [(false, eval a X.env)] := by rfl) :
    LI X sub Γ E (.Tuple elts k pt) (.Call (.Name "enumerate" p) [a] [] pos) .enum (.cons a' .nil) := by
  intro pins s σ H Rr I ⟨ρ, h, τ, Q', R, L, w, kk⟩
  have up : upEs X.K (Z.wpEs sub Γ E (.cons a' .nil)) σ H (fun vs H1 => ∃ (b : Addr) (xs : List V), vs = [.ref b] ∧ SqT X.K H1 b xs ∧ Rr (Ite X.K b) H1) := by
    refine ⟨ρ, h, τ, fun ds h1 => match ds with | [x] => Q' [x] h1 | _ => False, R, L, (by simpa only [Z.wpEs] using w), fun ds h1 ρ1 H1 vs e1 R1 r1 q => ?_⟩
    obtain ⟨x, rfl⟩ : ∃ x, ds = [x] := by
      match ds, q with
      | [x], _ => exact ⟨x, rfl⟩
    obtain ⟨J, eJ, hk⟩ := kk _ h1 ρ1 H1 vs e1 R1 r1 q
    cases x with
    | tup xs =>
      simp only [Z.iterOf, Z.ioV, Z.ioR, Z.ioE, Z.ioZ, Z.ioB] at eJ
      cases eJ
      simp only [RelDs, RelD] at r1
      obtain ⟨_, _, rfl, ⟨b, ys, rfl, hq, rs⟩, rfl⟩ := r1
      exact ⟨b, ys, rfl, hq, hk _ (itOk_enumX hq rs)⟩
    | _ => simp only [Z.iterOf, Z.ioV, Z.ioR, Z.ioE, Z.ioZ, Z.ioB] at eJ; cases eJ
  refine Call_ (ld_blt I hg hm bt_enumerate (PyProof.Rows.callWith_type1 (thn (ha pos pins s σ H _ I up) fun us s1 ⟨vs, H1, I1, r1, q1⟩ => ?_) hs rfl))
  obtain ⟨b, xs, rfl, hq, q⟩ := q1
  cases r1 with
  | cons r rr =>
    cases rr
    cases r
    obtain ⟨its, rv, p', hz⟩ := I1.tuple hq
    refine call_enum_tup (show s1.heap.IsTuple b its.toArray from p') fun h' he hi hsz hk => ?_
    refine wpAny_pyIter_enum he ?_
    refine ⟨s1.heap.objs.size + 1, [s1.heap.objs.size + 1, s1.heap.objs.size], _, _, H1, rfl, I1.kept (t' := s1.toks) hk, turn_enumT b _ _ (Nat.succ_ne_self _), ⟨⟨_, he⟩, hi⟩, fun c hb => ?_, q⟩
    have hc' : c = s1.heap.objs.size + 1 ∨ c = s1.heap.objs.size := by simpa using hb
    rcases hc' with rfl | rfl
    · exact I1.fpOk (Nat.le_succ _) (I1.hok.fresh (Nat.le_succ _))
    · exact I1.fpOk (Nat.le_refl _) (I1.hok.fresh (Nat.le_refl _))
end
end ZS
set_option linter.all false
set_option maxRecDepth 100000
set_option maxHeartbeats 4000000
namespace ZS
open PySem PySem.Spec PyProof.Rows L2
variable [R0]
section
variable {prog : Program} {w : World} {A : Around} {R : Result → Shared → Prop} {I : Addr} {fp wr : List Addr} {P : Nat → Value → Prop} {St : Nat → Heap → Prop}
end
section
variable {prog : Program} {w : World} {A : Around} {E : Value → Shared → Prop} {s : Shared}
end
section
variable {X : Cx} {sub : Nat → Nat → Bool} {Γ : Z.Gam} {E : Z.PX}
end
end ZS
set_option linter.all false
set_option maxRecDepth 100000
set_option maxHeartbeats 4000000
namespace ZS
open PySem PySem.Spec PyProof.Rows L2
variable [R0]
section
variable {X : Cx} {sub : Nat → Nat → Bool}
end
end ZS
set_option linter.all false
set_option maxRecDepth 100000
set_option maxHeartbeats 4000000
namespace ZS
open PySem PySem.Spec PyProof.Rows L2
variable [R0]
section
variable {pg : Program} {wd : World} {A : Around} {E : Value → Shared → Prop} {s : Shared} {z TI TO i1 i2 : Addr} {f1 f2 : List Addr} {n1 n2 k : Nat} {P1 P2 : Nat → Value → Prop} {S1 S2 : Nat → Heap → Prop} {a b : Value}
end
section
variable {pg : Program} {wd : World} {A : Around} {E : Value → Shared → Prop} {s : Shared} {z TI TO i1 i2 : Addr} {f1 f2 : List Addr} {n1 n2 k : Nat} {P1 P2 : Nat → Value → Prop} {S1 S2 : Nat → Heap → Prop} {a b : Value}
end
section
variable {pg : Program} {wd : World} {A : Around} {E : Value → Shared → Prop} {s : Shared}
end
section
variable {X : Cx} {sub : Nat → Nat → Bool} {Γ : Z.Gam} {E : Z.PX}
end
end ZS
set_option linter.all false
set_option maxRecDepth 100000
set_option maxHeartbeats 4000000
namespace ZS
open PySem PySem.Spec PyProof.Rows L2
variable [R0]
section
variable {X : Cx} {sub : Nat → Nat → Bool} {Γ : Z.Gam} {E : Z.PX}
end
end ZS
set_option linter.all false
set_option maxRecDepth 100000
set_option maxHeartbeats 4000000
namespace ZS
open PySem PySem.Spec PyProof.Rows L2
variable [R0]
section
variable {X : Cx} {sub : Nat → Nat → Bool} {Γ : Z.Gam} {E : Z.PX}
end
end ZS
set_option linter.all false
set_option maxRecDepth 100000
set_option maxHeartbeats 4000000
namespace ZS
open PySem PySem.Spec PyProof.Rows L2
variable [R0]
section
variable {X : Cx} {sub : Nat → Nat → Bool} {Γ : Z.Gam} {E : Z.PX}
end
end ZS
set_option linter.all false
set_option maxRecDepth 100000
set_option maxHeartbeats 4000000
namespace ZS
open PySem PySem.Spec PyProof.Rows L2
variable [R0]
section
variable {X : Cx} {sub : Nat → Nat → Bool} {Γ : Z.Gam} {E : Z.PX}
end
end ZS
set_option linter.all false
set_option maxRecDepth 100000
set_option maxHeartbeats 4000000
namespace ZS
open PySem PySem.Spec PyProof.Rows L2
section
variable {M : Model} {A : Around} {E : Value → Shared → Prop} {s : Shared}
end
section
variable {M : Model} {A : Around} {E : Value → Shared → Prop} {s : Shared}
end
variable [R0]
end ZS
set_option linter.all false
set_option maxRecDepth 100000
set_option maxHeartbeats 4000000
namespace ZS
open PySem PySem.Spec PyProof.Rows L2
section
variable {X : Cx} {pins : List (Addr × Obj)} {σ : L2.St} {H : Hp} {s : Shared}
end
end ZS
set_option linter.all false
set_option maxRecDepth 100000
set_option maxHeartbeats 4000000
namespace ZS
open PySem PySem.Spec PyProof.Rows L2
variable [R0]
section
variable {X : Cx} {sub : Nat → Nat → Bool} {Γ : Z.Gam} {E : Z.PX}
end
section
open PySem.W
variable {prog : Program} {w : World} {A : Around} {E : Value → Shared → Prop} {s : Shared} {K : PySem.W.Frag} {x D : Addr} {ox : Obj}
end
section
variable {X : Cx} {sub : Nat → Nat → Bool} {Γ : Z.Gam} {E : Z.PX}
end
end ZS
set_option linter.all false
set_option maxRecDepth 100000
set_option maxHeartbeats 4000000
namespace ZS
open PySem PySem.Spec PyProof.Rows L2
section
variable {X : Cx} {pins : List (Addr × Obj)} {σ : L2.St} {H : Hp} {s : Shared}
end
variable [r0 : R0]
section
variable {X : Cx} {sub : Nat → Nat → Bool} {Γ : Z.Gam} {E : Z.PX}
end
end ZS
set_option linter.all false
set_option maxRecDepth 100000
set_option maxHeartbeats 4000000
namespace ZS
open PySem PySem.Spec PyProof.Rows L2
variable [R0]
section
variable {X : Cx} {sub : Nat → Nat → Bool} {Γ : Z.Gam} {E : Z.PX}
end
end ZS
set_option linter.all false
set_option maxRecDepth 100000
set_option maxHeartbeats 4000000
namespace ZS
open PySem PySem.Spec PyProof.Rows L2
variable [r0 : R0]
section
variable {X : Cx} {sub : Nat → Nat → Bool} {Γ : Z.Gam} {E : Z.PX}
end
end ZS
set_option linter.all false
set_option maxRecDepth 100000
set_option maxHeartbeats 4000000
namespace ZS
open PySem PySem.Spec PyProof.Rows L2
variable [R0]
section
variable {X : Cx} {sub : Nat → Nat → Bool} {Γ : Z.Gam} {E : Z.PX}
end
end ZS
set_option linter.all false
set_option maxRecDepth 100000
set_option maxHeartbeats 4000000
namespace ZT
open PySem PyProof PyProof.Rows
section
variable {prog : Program} {w : World} {A : Around} {E : Value → Shared → Prop} {s : Shared} {r l : Addr} {items : Array Value}
end
end ZT
namespace ZS
open PySem PySem.Spec PyProof.Rows L2
variable [R0]
section
variable {X : Cx} {sub : Nat → Nat → Bool} {Γ : Z.Gam} {E : Z.PX}
theorem objOk_drop {P : Program} {w : World} {H : Hp} {r : Addr} {φ : Heap → Prop} {h : Heap} (hr : H r = none) (a : Addr) : ∀ o : HO, ObjOk P w (upd H r (.ext φ)) h a o → ObjOk P w H h a o
  | .lst xs, k => k
  | .tup xs, k => k
  | .dK kvs, k => k
  | .dT kvs, k => by
    obtain ⟨k1, k2, xs, k3, k4⟩ := k
    refine ⟨k1, k2, xs, ?_, k4⟩
    refine Paired.mono (fun p q z => ?_) k3
    refine ⟨z.1, ?_, z.2.2⟩
    have := z.2.1
    by_cases e : q.2.1 = r
    · rw [e, upd_same] at this; cases this
    · rwa [upd_ne e] at this
  | .set S n, k => k
  | .ins C dx fs, k => by
    obtain ⟨k1, k2⟩ := k
    refine ⟨?_, k2⟩
    by_cases e : dx = r
    · rw [e, upd_same] at k1; cases k1
    · rwa [upd_ne e] at k1
  | .own _, k => k
  | .xd fs, k => k
  | .rng lo hi, k => k
  | .frz o u, k => ⟨k.1, objOk_drop hr a u k.2⟩
  | .tbl ps, k => k
  | .met f x, k => k
  | .ext φ, k => k
theorem inv_drop {pins : List (Addr × Obj)} {σ : L2.St} {H : Hp} {s : Shared} {r : Addr} {φ : Heap → Prop} (I : Inv X pins σ (upd H r (.ext φ)) s) (hr : H r = none) : Inv X pins σ H s := by
  have back : ∀ b o, (upd H r (.ext φ)) b = some o → (∀ ψ, o ≠ .ext ψ) → H b = some o := fun b o e n => by
    by_cases z : b = r
    · rw [z, upd_same] at e; cases e; exact absurd rfl (n φ)
    · rwa [upd_ne z] at e
  have nn : ∀ b, (upd H r (.ext φ)) b = none → H b = none := fun b e => by
    by_cases z : b = r
    · rw [z]; exact hr
    · rwa [upd_ne z] at e
  refine ⟨I.ok, I.os, I.bare, ⟨I.base.keep, I.base.slot, fun b o e1 e2 e3 => nn b (I.base.free b o e1 e2 e3), I.base.there, fun b xs e => back _ _ (I.base.tups b xs e) (fun _ z => by cases z), fun b o u e => back _ _ (I.base.frzs b o u e) (fun _ z => by cases z), fun b ps e => ?_⟩, I.loc, I.cell, nn _ I.free, fun x c e => nn _ (I.freeC x c e), fun p hp => ?_, fun a o e => ?_, I.len⟩
  · obtain ⟨more, e'⟩ := I.base.tbls b ps e
    exact ⟨more, back _ _ e' (fun _ z => by cases z)⟩
  · obtain ⟨a1, a2, a3⟩ := I.pin p hp
    exact ⟨a1, nn _ a2, a3⟩
  · have ne : a ≠ r := fun z => by rw [z, hr] at e; cases e
    exact objOk_drop hr a o (I.hok a o (by rw [upd_ne ne]; exact e))
end
end ZS
set_option linter.all false
set_option maxRecDepth 100000
set_option maxHeartbeats 4000000
namespace ZS
open PySem PySem.Spec PyProof.Rows L2
variable [R0]
section
variable {X : Cx} {sub : Nat → Nat → Bool} {Γ : Z.Gam} {E : Z.PX}
theorem c1 {P : List Value → Prop} {us : List Value} {n : Nat} (hl : us.length = n + 1) (h : ∀ a r, r.length = n → P (a :: r)) : P us := by
  cases us with
  | nil => cases hl
  | cons a r => exact h a r (Nat.succ.inj hl)
@[elab_as_elim] theorem by0 {P : List Value → Prop} {us : List Value} (hl : us.length = 0) (h : P []) : P us := List.eq_nil_of_length_eq_zero hl ▸ h
@[elab_as_elim] theorem by1 {P : List Value → Prop} {us : List Value} (hl : us.length = 1) (h : ∀ a, P [a]) : P us := c1 hl fun a _ g => by0 g (h a)
@[elab_as_elim] theorem by2 {P : List Value → Prop} {us : List Value} (hl : us.length = 2) (h : ∀ a b, P [a, b]) : P us := c1 hl fun a _ g => by1 g (h a)
end
end ZS
set_option linter.all false
set_option maxRecDepth 100000
set_option maxHeartbeats 4000000
namespace ZS
open PySem PySem.Spec PyProof.Rows L2
variable [R0]
theorem ints_are : ∀ {is : List Int} {us : List Value}, Vals (is.map V.int) us → IntsAre us is
  | [], _, .nil => .nil
  | i :: is, _, .cons ⟨t, e⟩ r => by subst e; exact .cons i t (ints_are r)
theorem are_ints : ∀ {is : List Int} {us : List Value}, IntsAre us is → Vals (is.map V.int) us
  | _, _, .nil => .nil
  | _, _, .cons i t r => .cons ⟨t, rfl⟩ (are_ints r)
theorem sint_rel {K : PySem.W.Frag} {ρ : List Addr} {H : Hp} : ∀ {zs : List Z.D} {is : List Int} {ys : List V}, Z.intsOf zs = some is → RelDs K ρ H zs ys → ys = is.map .int
  | [], is, ys, e, r => by
    simp only [RelDs] at r
    cases e; exact r
  | z :: zs, is, ys, e, r => by
    simp only [RelDs] at r
    obtain ⟨y, t, rfl, r1, r2⟩ := r
    cases z with
    | int i =>
      simp only [Z.intsOf] at e
      cases e2 : Z.intsOf zs with
      | none => rw [e2] at e; cases e
      | some js =>
        rw [e2] at e
        cases e
        simp only [RelD] at r1
        rw [sint_rel e2 r2, r1]; rfl
    | _ => cases e
theorem srel_ints {K : PySem.W.Frag} {ρ : List Addr} {H : Hp} : ∀ (js : List Int), RelDs K ρ H (js.map .int) (js.map .int)
  | [] => by simp only [List.map_nil, RelDs]
  | j :: js => by
    simp only [List.map_cons, RelDs]
    exact ⟨_, _, rfl, by simp only [RelD], srel_ints js⟩
section
variable {X : Cx} {sub : Nat → Nat → Bool} {Γ : Z.Gam} {E : Z.PX}
noncomputable def phs (X : Cx) (a : Addr) (ks : List Int) : Heap → Prop := fun h => ZT.SO X.prog X.w h a ks (ZT.ldW X.w) ∧ X.s₀.heap.objs.size ≤ a
theorem call_setL (hc : X.calm = true) : CallR X (.type "set") (fun xs H Q => ∃ (l : Addr) (is : List Int), xs = [.ref l] ∧ H l = some (.lst (is.map .int)) ∧ is.length < 64 ∧ ∀ a ks, H a = none → (∀ k ∈ ks, k ∈ is) → ks.length ≤ is.length → Q (.ref a) (upd H a (.ext (phs X a ks)))) := by
  intro pins s σ H xs us Q I rv ⟨l, is, e, hl, h64, q⟩
  subst e
  obtain ⟨u, rfl, ru⟩ := vals1 rv
  cases ru
  obtain ⟨its, vv, pl, _⟩ := I.list (.of hl)
  have hn : H s.heap.objs.size = none := I.hok.fresh (Nat.le_refl _)
  have hli : its.length = is.length := by rw [← vv.length, List.length_map]
  refine ZT.lst_set (I.ok.hd hc) pl.isList (ns := is) (ints_are vv) (Nat.lt_trans (show its.toArray.size + 1 < 65 by rw [List.size_toArray]; omega) (by decide)) fun h' tk ks S lk hk kp => ?_
  refine ⟨.ref s.heap.objs.size, _, I.laid (t' := tk) (fun b o e => kp b o (Heap.lt_size e) e) (Nat.le_refl _) ?_, rfl, q _ ks hn hk (by rw [List.size_toArray] at lk; omega)⟩
  refine ⟨⟨S, I.sz⟩, ?_, fun h1 h2 k1 k2 => ⟨k1.1.at k2, k1.2⟩⟩
  obtain ⟨o, _, _, _, ho, _⟩ := S
  exact ⟨o, ho⟩
theorem call_sortS (hc : X.calm = true) : CallR X (.builtin "sorted") (fun xs H Q => ∃ a ks H0, xs = [.ref a] ∧ H = upd H0 a (.ext (phs X a ks)) ∧ H0 a = none ∧ ks.length < 64 ∧ ∀ (L : Addr) (js : List Int), js.Nodup → (∀ j ∈ js, j ∈ ks) → H0 L = none → Q (.ref L) (upd H0 L (.lst (js.map .int)))) := by
  intro pins s σ H xs us Q I rv ⟨a, ks, H0, e, eH, hr, h64, q⟩
  subst e
  subst eH
  obtain ⟨u, rfl, ru⟩ := vals1 rv
  cases ru
  obtain ⟨⟨S, hsz⟩, _⟩ := (show ObjOk X.prog X.w _ s.heap a (.ext (phs X a ks)) from I.hok a _ upd_same)
  have hnd : ks.Nodup := by obtain ⟨_, _, _, _, _, _, _, _, _, h, _⟩ := S; exact h
  have I0 := inv_drop I hr
  refine ZT.sorted_set (I.ok.hd hc) S h64 fun h' tk d L out ns n hi hp hL e kp => ?_
  have hn : H0 L = none := I0.hok.fresh hL
  have hlen : ns.length ≤ sizeLine := by rw [hp.length_eq, sizeLine_eq]; omega
  have I1 : Inv X pins σ (upd H0 L (.lst (ns.map .int))) { s with heap := h', toks := tk } :=
    I0.laid kp hL ⟨by rw [List.length_map]; exact hlen, out.toList, n, are_ints hi, by rw [Array.toArray_toList]; exact e⟩
  have I2 : Inv X pins σ (upd H0 L (.lst (ns.map .int))) { s with heap := h', drawn := d, toks := tk } := ⟨I1.ok, I1.os, I1.bare, I1.base, I1.loc, I1.cell, I1.free, I1.freeC, I1.pin, I1.hok, I1.len⟩
  exact ⟨.ref L, _, I2, rfl, q L ns (hp.nodup_iff.mpr hnd) (fun j hj => hp.mem_iff.mp hj) hn⟩
theorem zsset {a : Expr} {a' : Z.Ex} {p p2 pos pos2 : Pos} (hml : X.mg "sorted" = none) (hmr : X.mg "set" = none) (ha : LE X sub Γ E a a') (hc : X.calm = true := by rfl) (hgl : Gl X "sorted" := by rfl) (hgr : Gl X "set" := by rfl)
    (he : starEach [a] X.env = (false, eval a X.env) :: starEach [] X.env := by rfl) (hpl : (backTo pos2 (starEach [] X.env)).any (·.1) = false := by rfl)
    (he2 : starEach [.Call (.Name "set" p2) [a] [] pos2] X.env = (false, eval (.Call (.Name "set" p2) [a] [] pos2) X.env) :: starEach [] X.env := by rfl) (hpl2 : (backTo pos (starEach [] X.env)).any (·.1) = false := by rfl) :
    LE X sub Γ E (.Call (.Name "sorted" p) [.Call (.Name "set" p2) [a] [] pos2] [] pos) (.sset a') := by
  refine PEw (pe_callB (call_sortS hc) hgl hml bt_sorted (pa_cons (pe_callTy (call_setL hc) hgr hmr bt_set (pa_cons ha pa_nil he) (by decide) (by decide) he hpl) pa_nil he2) (by decide) (by decide) he2 hpl2) ?_
  rintro σ H Q ⟨ρ, h, τ, Q', R, L, w, k⟩
  simp only [Z.wpE] at w
  refine ⟨ρ, h, τ, _, R, L, w, fun d1 h1 ρ1 H1 x e1 R1 r1 w1 => ?_⟩
  cases d1 with
  | ref n =>
    cases eo : h1[n]? with
    | none => simp only [eo] at w1
    | some ob =>
      cases ob with
      | lst zs =>
        cases ei : Z.intsOf zs with
        | none => simp only [eo, ei] at w1
        | some is =>
          simp only [eo, ei] at w1
          obtain ⟨b, ys, rfl, hn, hy, rs⟩ := lstAt R1 r1 eo
          rw [sint_rel ei rs] at hy
          refine ⟨b, is, rfl, hy, w1.1, fun c ks hr hk hl => ⟨c, ks, H1, rfl, rfl, hr, by have := w1.1; omega, fun l js hj hm hL => ?_⟩⟩
          obtain ⟨e3, R3, r3⟩ := new_list R1 (srel_ints js) hL
          exact k _ _ _ _ _ (e1.trans e3) R3 r3 (w1.2 js hj fun j z => hk j (hm j z))
      | _ => simp only [eo] at w1
  | _ => exact w1.elim
end
end ZS
set_option linter.all false
namespace Z
section
variable {sub : Nat → Nat → Bool} {Γ : Gam} {E : PX} {K : En} {σ : Lo} {h : AH} {Q : PV}
theorem g_var {i : Nat} : wpE sub Γ E (.var i) σ h Q = (match σ[i]? with | some (some v) => Q v h | _ => False) := rfl
theorem g_lit {d : D} : wpE sub Γ E (.lit d) σ h Q = Q d h := rfl
theorem g_prim {p : Prim} {es : Exs} : wpE sub Γ E (.prim p es) σ h Q = wpEs sub Γ E es σ h (fun vs h1 => match prim sub p vs h1 with | some (v, h2) => Q v h2 | none => False) := rfl
theorem g_andV {a b : Ex} : wpE sub Γ E (.andV a b) σ h Q = wpE sub Γ E a σ h (fun x h1 => match x with | .bl true => wpE sub Γ E b σ h1 Q | .bl false => Q (.bl false) h1 | _ => False) := rfl
theorem g_orV {a b : Ex} : wpE sub Γ E (.orV a b) σ h Q = wpE sub Γ E a σ h (fun x h1 => match x with | .bl true => Q (.bl true) h1 | .bl false => wpE sub Γ E b σ h1 Q | _ => False) := rfl
theorem g_ite {c : Tx} {a b : Ex} : wpE sub Γ E (.ite c a b) σ h Q = wpT sub Γ E c σ h (fun k h1 => if k = true then wpE sub Γ E a σ h1 Q else wpE sub Γ E b σ h1 Q) := rfl
theorem g_call {f : Nat} {es : Exs} {ds : List D} : wpE sub Γ E (.call f es ds) σ h Q = wpEs sub Γ E es σ h (fun vs h1 => Γ f (vs ++ ds) h1 Q (EF E)) := rfl
theorem g_slc {a b c : Ex} : wpE sub Γ E (.slc a b c) σ h Q = wpE sub Γ E a σ h (fun x h1 => wpE sub Γ E b σ h1 fun y h2 => match y with
    | .int i => wpE sub Γ E c σ h2 fun z h3 => match z with
      | .int j => match pSlice x (some i) (some j) h3 with
        | some (v, h4) => Q v h4
        | none => False
      | _ => False
    | _ => False) := rfl
theorem g_mth {k : MK} {p : Prim} {o : Ex} {es : Exs} : wpE sub Γ E (.mth k p o es) σ h Q = wpE sub Γ E o σ h (fun x h1 => tyB h1 k x = true ∧ wpEs sub Γ E es σ h1 fun vs h2 => match prim sub p (x :: vs) h2 with
    | some (v, h3) => Q v h3
    | none => False) := rfl
theorem g_nil {Q : List D → AH → Prop} : wpEs sub Γ E .nil σ h Q = Q [] h := rfl
theorem g_cons {e : Ex} {es : Exs} {Q : List D → AH → Prop} : wpEs sub Γ E (.cons e es) σ h Q = wpE sub Γ E e σ h (fun v h1 => wpEs sub Γ E es σ h1 fun vs h2 => Q (v :: vs) h2) := rfl
theorem g_tru {e : Ex} {Q : Bool → AH → Prop} : wpT sub Γ E (.tru e) σ h Q = wpE sub Γ E e σ h (fun v h1 => match truthy h1 v with | some c => Q c h1 | none => False) := rfl
theorem g_and {a b : Tx} {Q : Bool → AH → Prop} : wpT sub Γ E (.and a b) σ h Q = wpT sub Γ E a σ h (fun c h1 => if c = true then wpT sub Γ E b σ h1 Q else Q false h1) := rfl
theorem g_or {a b : Tx} {Q : Bool → AH → Prop} : wpT sub Γ E (.or a b) σ h Q = wpT sub Γ E a σ h (fun c h1 => if c = true then Q true h1 else wpT sub Γ E b σ h1 Q) := rfl
theorem g_not {a : Tx} {Q : Bool → AH → Prop} : wpT sub Γ E (.not a) σ h Q = wpT sub Γ E a σ h (fun c h1 => Q (!c) h1) := rfl
theorem g_none {Q : Bool → AH → Prop} : wpC sub Γ E .none σ h Q = Q true h := rfl
theorem g_one {t : Tx} {Q : Bool → AH → Prop} : wpC sub Γ E (.one t) σ h Q = wpT sub Γ E t σ h Q := rfl
theorem g_expr {e : Ex} : wpS sub Γ E (.expr e) K σ h = wpE sub Γ E e σ h (fun _ h1 => K.nx σ h1) := rfl
theorem g_asg {i : Nat} {e : Ex} : wpS sub Γ E (.asg i e) K σ h = wpE sub Γ E e σ h (fun v h1 => K.nx (σ.set i (some v)) h1) := rfl
theorem g_unp {is : List Nat} {e : Ex} : wpS sub Γ E (.unp is e) K σ h = wpE sub Γ E e σ h (fun v h1 => match bindT is v σ with | some σ' => K.nx σ' h1 | none => False) := rfl
theorem g_setx {o i v : Ex} : wpS sub Γ E (.setx o i v) K σ h = wpE sub Γ E v σ h (fun x h1 => wpE sub Γ E o σ h1 fun y h2 => wpE sub Γ E i σ h2 fun z h3 => match prim sub .setx [y, z, x] h3 with
    | some (_, h4) => K.nx σ h4
    | none => False) := rfl
theorem g_ret {e : Ex} : wpS sub Γ E (.ret e) K σ h = wpE sub Γ E e σ h K.rt := rfl
theorem g_retN : wpS sub Γ E .retN K σ h = K.rt .non h := rfl
theorem g_ife {c : Tx} {a b : Sms} : wpS sub Γ E (.ife c a b) K σ h = wpT sub Γ E c σ h (fun k h1 => if k = true then wpSs sub Γ E a K σ h1 else wpSs sub Γ E b K σ h1) := rfl
theorem g_brk : wpS sub Γ E .brk K σ h = K.bk σ h := rfl
theorem g_cnt : wpS sub Γ E .cnt K σ h = K.ct σ h := rfl
theorem g_pass : wpS sub Γ E .pass K σ h = K.nx σ h := rfl
theorem g_snil : wpSs sub Γ E .nil K σ h = K.nx σ h := rfl
theorem g_scons {s : Sm} {ss : Sms} : wpSs sub Γ E (.cons s ss) K σ h = wpS sub Γ E s { K with nx := fun σ' h' => wpSs sub Γ E ss K σ' h' } σ h := rfl
section
variable {i j : Int} {s t : S} {x y v : D} {xs ys : List D} {a b n : Nat} {p q : Bool}
theorem q_idxT : prim sub .idx [.tup xs, .int i] h = (atI xs i).map fun v => (v, h) := rfl
theorem q_idxR : prim sub .idx [.rol xs, .int i] h = (atI xs i).map fun v => (v, h) := rfl
theorem q_idxS : prim sub .idx [.str s, .int i] h = (atI s i).map fun c => (.str [c], h) := rfl
theorem q_addS : prim sub .add [.str s, .str t] h = if s.length + t.length ≤ 16777216 then some (.str (s ++ t), h) else none := rfl
theorem q_slHS : prim sub .slH [.str s, .int i] h = some (.str (cut s none (some i)), h) := rfl
theorem q_slLS : prim sub .slL [.str s, .int i] h = some (.str (cut s (some i) none), h) := rfl
theorem q_eq : prim sub .eq [x, y] h = (eqH h x y).map fun b => (.bl (b != false), h) := rfl
theorem q_ne : prim sub .ne [x, y] h = (eqH h x y).map fun b => (.bl (b != true), h) := rfl
theorem q_isi {k : KN} : prim sub (.isi k) [x] h = (isiB h sub k x).map fun b => (.bl b, h) := rfl
theorem q_lenR : prim sub .len [.rol xs] h = some (.int xs.length, h) := rfl
theorem q_lenT : prim sub .len [.tup xs] h = some (.int xs.length, h) := rfl
theorem q_lenS : prim sub .len [.str s] h = some (.int s.length, h) := rfl
theorem q_in_T : prim sub .in_ [x, .tup ys] h = (inDs x ys).map fun b => (.bl (b != false), h) := by cases x <;> rfl
theorem q_mkd : prim sub .mkdct [] h = some (.ref h.length, h ++ [.dct []]) := rfl
theorem q_mkt : prim sub .mktup xs h = if xs.length ≤ 16777216 then some (.tup xs, h) else none := rfl
theorem q_mkl : prim sub .mklst xs h = if xs.length ≤ 16777216 then some (.ref h.length, h ++ [.lst xs]) else none := rfl
theorem q_isN0 : prim sub .isN [.non] h = some (.bl true, h) := rfl
theorem q_notN0 : prim sub .notN [.non] h = some (.bl false, h) := rfl
theorem q_isN1 : prim sub .isN [.int i] h = some (.bl false, h) := rfl
theorem q_notN1 : prim sub .notN [.int i] h = some (.bl true, h) := rfl
theorem q_not1 : prim sub .not1 [.bl p] h = some (.bl (!p), h) := rfl
theorem q_max : prim sub .max2 [.int i, .int j] h = some (.int (if j > i then j else i), h) := rfl
theorem q_min : prim sub .min2 [.int i, .int j] h = some (.int (if j < i then j else i), h) := rfl
theorem q_shr : prim sub .shr [.int i, .int j] h = if 0 ≤ j then some (.int (i / 2 ^ j.toNat), h) else none := rfl
theorem q_band : prim sub .band [.int i, .int j] h = some (.int (bAnd i j), h) := rfl
theorem q_bor : prim sub .bor [.int i, .int j] h = some (.int (bOr i j), h) := rfl
theorem q_inv : prim sub .inv [.int i] h = some (.int (bNot i), h) := rfl
theorem q_bitlen : prim sub .bitlen [.int i] h = some (.int (bLen i), h) := rfl
theorem t_bl : truthy h (.bl p) = some p := rfl
theorem t_int : truthy h (.int i) = some (i != 0) := rfl
theorem y_lst (ha : h[a]? = some (.lst xs)) : tyB h .list (.ref a) = true := by simp only [tyB, ha]
theorem y_str : tyB h .str (.str s) = true := rfl
theorem y_int : tyB h .int (.int i) = true := rfl
theorem y_tup : tyB h .tuple (.tup xs) = true := rfl
end
theorem b_two {i j : Nat} {x y : D} : bindT [i, j] (.tup [x, y]) σ = some ((σ.set i (some x)).set j (some y)) := rfl
theorem wp_call {P : List Def} {d f : Nat} {vs : List D} {df : Def} (hf : P[f]? = some df) (hv : vs.length = df.np) (w : wpSs sub (wpCall sub P d) E df.body { nx := fun _ h => Q .non h, rt := Q } (vs.map some ++ List.replicate (df.nl - df.np) none) h) : wpCall sub P (d + 1) f vs h Q E := by
  simp only [wpCall, hf]
  exact ⟨hv, w⟩
end
theorem atI_lit {α : Type} {xs : List α} {n : Nat} : atI xs (n : Int) = xs[n]? := by
  unfold atI ixN
  by_cases hn : n < xs.length
  · rw [if_pos (Int.natCast_nonneg n), if_pos (by omega)]; simp
  · rw [if_pos (Int.natCast_nonneg n), if_neg (by omega), List.getElem?_eq_none (by omega)]; rfl
theorem atI_of {α : Type} {xs : List α} {i : Int} (h0 : 0 ≤ i) : atI xs i = xs[i.toNat]? := by
  obtain ⟨n, rfl⟩ := Int.eq_ofNat_of_zero_le h0
  rw [Int.toNat_natCast]; exact atI_lit
theorem it_lst {h1 : AH} {a : Nat} {xs : List D} (e : h1[a]? = some (.lst xs)) : iterOf .val [.ref a] h1 = some (itList a) := by simp only [iterOf, ioV, ioR, ioE, ioZ, ioB, e]
theorem it_lst_at {h1 h' : AH} {a : Nat} {xs : List D} (e : h1[a]? = some (.lst xs)) (p : h1 <+: h') (i : Nat) : itList a i h' = some xs[i]? := by
  obtain ⟨l, rfl⟩ := p
  have e' : (h1 ++ l)[a]? = some (.lst xs) := by rw [List.getElem?_append_left (List.getElem?_eq_some_iff.mp e).1]; exact e
  simp only [itList, e']
theorem get_app {h l : AH} {n : Nat} {o : AO} (e : h[n]? = some o) : (h ++ l)[n]? = some o := by
  rw [List.getElem?_append_left (List.getElem?_eq_some_iff.mp e).1]; exact e
theorem get_new {h : AH} {o : AO} : (h ++ [o])[h.length]? = some o := by simp
theorem get_set {h : AH} {n : Nat} {o o' : AO} (e : h[n]? = some o) : (h.set n o')[n]? = some o' := by
  rw [List.getElem?_set_self (List.getElem?_eq_some_iff.mp e).1]
theorem get_set_ne {h : AH} {m n : Nat} {o o' : AO} (e : h[n]? = some o) (hne : m ≠ n) : (h.set m o')[n]? = some o := by
  rw [List.getElem?_set_ne hne]; exact e
theorem cut_len {α : Type} {xs : List α} {lo hi : Option Int} : (cut xs lo hi).length ≤ xs.length := by
  unfold cut; simp; omega
theorem pre_get {h h' : AH} {n : Nat} {o : AO} (p : h <+: h') (e : h[n]? = some o) : h'[n]? = some o := by
  obtain ⟨l, rfl⟩ := p; exact get_app e
theorem pre_app {h h' l : AH} (p : h <+: h') : h <+: h' ++ l := p.trans (List.prefix_append _ _)
theorem pre_set {h h' : AH} {r : Nat} {o : AO} (p : h <+: h') (hr : h.length ≤ r) : h <+: h'.set r o := by
  obtain ⟨l, rfl⟩ := p
  rw [List.set_append_right _ _ hr]
  exact List.prefix_append _ _
theorem pre_rfl {h : AH} : h <+: h := List.prefix_refl h
theorem get_lt {h : AH} {n : Nat} {o : AO} (e : h[n]? = some o) : n < h.length := (List.getElem?_eq_some_iff.mp e).1
theorem eqN_str {n : Nat} {x y : S} : eqN n (.str x) (.str y) = some (x == y) := by cases n <;> rfl
theorem inDs_str {x : S} : ∀ {ss : List S}, inDs (.str x) (ss.map .str) = some (ss.contains x)
  | [] => rfl
  | y :: r => by
    simp only [List.map_cons, inDs, eqN_str, inDs_str (ss := r), List.contains_cons]
    have e : (y == x) = (x == y) := by rw [Bool.eq_iff_iff, beq_iff_eq, beq_iff_eq]; exact eq_comm
    rw [e]
theorem strsOf_map : ∀ {ss : List S}, strsOf (ss.map .str) = some ss
  | [] => rfl
  | x :: r => by simp only [List.map_cons, strsOf, strsOf_map (ss := r), Option.map_some]
theorem eqH_lst {h : AH} {a b : Nat} {xs ys : List D} (ea : h[a]? = some (.lst xs)) (eb : h[b]? = some (.lst ys)) : eqH h (.ref a) (.ref b) = eqLs xs ys := by simp only [eqH, ea, eb]
theorem eqH_int {h : AH} {i j : Int} : eqH h (.int i) (.int j) = some (i == j) := rfl
theorem eqH_str {h : AH} {i j : S} : eqH h (.str i) (.str j) = some (i == j) := rfl
end Z
namespace Z
inductive Sn where
  | is (n : S) | nt (a : Sn) | an (a b : Sn) | or (a b : Sn)
noncomputable def nm : Sn → List S
  | .is n => [n]
  | .nt a => nm a
  | .an a b => nm a ++ nm b
  | .or a b => nm a ++ nm b
noncomputable def sz : Sn → Nat
  | .is _ => 1
  | .nt a => sz a + 1
  | .an a b => sz a + sz b + 1
  | .or a b => sz a + sz b + 1
noncomputable def kd (ks : List S) : List (KK × D) := ks.map fun k => (.inr k, .bl true)
section
variable {sub : Nat → Nat → Bool} {h : AH} {a : Nat} {xs : List D} {v : D}
theorem q_srtL {ks : List S} (ha : h[a]? = some (.lst (ks.map .str))) (hl : ks.length < 64) : prim sub .sorted_ [.ref a] h = some (.ref h.length, h ++ [.lst ((sortS ks).map .str)]) := by
  show (match h[a]? with | some (.lst xs) => _ | some (.dct kvs) => _ | _ => none) = _
  rw [ha]
  show ((strsOf (ks.map .str)).bind _) = _
  rw [strsOf_map, Option.bind_some, if_pos hl]
  refine if_pos ?_
  rw [List.length_map, (sortS_perm ks).length_eq]; unfold lim; omega
theorem q_tupleL (ha : h[a]? = some (.lst xs)) : prim sub .tuple_ [.ref a] h = some (.tup xs, h) := by
  show ((seqOf h (.ref a)).map fun xs => (D.tup xs, h)) = _
  simp only [seqOf, ha, Option.map_some]
theorem cut_mem {α : Type} {xs : List α} {lo hi : Option Int} {v : α} (hv : v ∈ cut xs lo hi) : v ∈ xs := by
  unfold cut at hv
  exact List.mem_of_mem_drop (List.mem_of_mem_take hv)
end
end Z
namespace Z
theorem has_eq (w k : Nat) : (bAnd ((w : Int) / 2 ^ ((k : Int)).toNat) 1 == 1) = w.testBit k := by
  have e1 : ((w : Int) / 2 ^ ((k : Int)).toNat) = ((w / 2 ^ k : Nat) : Int) := by
    rw [Int.toNat_natCast, Int.natCast_ediv]; norm_cast
  have e2 : bAnd ((w / 2 ^ k : Nat) : Int) 1 = ((w / 2 ^ k % 2 : Nat) : Int) := by
    show (((w / 2 ^ k) &&& 1 : Nat) : Int) = _
    rw [Nat.and_one_is_mod]
  rw [e1, e2, Nat.testBit_eq_decide_div_mod_eq, Bool.eq_iff_iff, beq_iff_eq, decide_eq_true_iff]
  omega
noncomputable def dp : Sn → Nat
  | .is _ => 1
  | .nt a => dp a + 1
  | .an a b => max (dp a) (dp b) + 1
  | .or a b => max (dp a) (dp b) + 1
section
variable {sub : Nat → Nat → Bool} {h : AH}
theorem q_shl1 {k : Nat} (hk : k ≤ 1000) : prim sub .shl [.int 1, .int (k : Int)] h = some (.int ((2 ^ k : Nat) : Int), h) := by
  show (if 0 ≤ (k : Int) ∧ (k : Int) ≤ 1000000 ∧ (1 : Int).natAbs < 18446744073709551616 then some (D.int (1 * 2 ^ (k : Int).toNat), h) else none) = _
  rw [if_pos ⟨by omega, by omega, by decide⟩, Int.toNat_natCast, Int.one_mul]
  norm_cast
end
end Z
local macro_rules
  | `(tactic| simp! only) => `(tactic| simp only [List.getElem?_cons_zero, List.getElem?_cons_succ, List.set_cons_zero, List.set_cons_succ, List.nil_append, List.append_nil, List.cons_append, List.map_cons, List.map_nil, Nat.sub_zero, Option.map_some, Option.map_none, List.length_cons, List.length_nil, if_true, if_false, Bool.not_true, Bool.not_false, Bool.bne_false, Bool.bne_true, and_self, true_and, and_true, List.replicate_succ, List.replicate_zero, Z.g_var, Z.g_lit, Z.g_prim, Z.g_andV, Z.g_orV, Z.g_ite, Z.g_call, Z.g_slc, Z.g_mth, Z.g_nil, Z.g_cons, Z.g_tru, Z.g_and, Z.g_or, Z.g_not, Z.g_none, Z.g_one, Z.g_expr, Z.g_asg, Z.g_unp, Z.g_setx, Z.g_ret, Z.g_retN, Z.g_ife, Z.g_brk, Z.g_cnt, Z.g_pass, Z.g_snil, Z.p_addI, Z.q_addS, Z.q_slHS, Z.q_slLS, Z.p_subI, Z.p_neg, Z.p_lt, Z.p_le, Z.p_gt, Z.p_ge, Z.q_idxT, Z.q_idxR, Z.q_idxS, Z.q_eq, Z.q_ne, Z.q_lenR, Z.q_lenT, Z.q_lenS, Z.q_in_T, Z.q_mkd, Z.q_mkt, Z.q_mkl, Z.q_isN0, Z.q_notN0, Z.q_isN1, Z.q_notN1, Z.q_not1, Z.q_max, Z.q_min, Z.q_shr, Z.q_band, Z.q_bor, Z.q_inv, Z.q_bitlen, Z.t_bl, Z.t_int, Z.y_str, Z.y_int, Z.y_tup, Z.b_two, Z.eqH_int, Z.eqH_str, Z.p_mod, Z.p_fdiv, Z.p_mulI, Z.p_mulI', reduceIte, Bool.false_eq_true, Int.reduceLT, Int.reduceLE, Nat.reduceLeDiff, Nat.reduceSub])
  | `(tactic| simp! only [$ls,*]) => `(tactic| simp only [List.getElem?_cons_zero, List.getElem?_cons_succ, List.set_cons_zero, List.set_cons_succ, List.nil_append, List.append_nil, List.cons_append, List.map_cons, List.map_nil, Nat.sub_zero, Option.map_some, Option.map_none, List.length_cons, List.length_nil, if_true, if_false, Bool.not_true, Bool.not_false, Bool.bne_false, Bool.bne_true, and_self, true_and, and_true, List.replicate_succ, List.replicate_zero, Z.g_var, Z.g_lit, Z.g_prim, Z.g_andV, Z.g_orV, Z.g_ite, Z.g_call, Z.g_slc, Z.g_mth, Z.g_nil, Z.g_cons, Z.g_tru, Z.g_and, Z.g_or, Z.g_not, Z.g_none, Z.g_one, Z.g_expr, Z.g_asg, Z.g_unp, Z.g_setx, Z.g_ret, Z.g_retN, Z.g_ife, Z.g_brk, Z.g_cnt, Z.g_pass, Z.g_snil, Z.p_addI, Z.q_addS, Z.q_slHS, Z.q_slLS, Z.p_subI, Z.p_neg, Z.p_lt, Z.p_le, Z.p_gt, Z.p_ge, Z.q_idxT, Z.q_idxR, Z.q_idxS, Z.q_eq, Z.q_ne, Z.q_lenR, Z.q_lenT, Z.q_lenS, Z.q_in_T, Z.q_mkd, Z.q_mkt, Z.q_mkl, Z.q_isN0, Z.q_notN0, Z.q_isN1, Z.q_notN1, Z.q_not1, Z.q_max, Z.q_min, Z.q_shr, Z.q_band, Z.q_bor, Z.q_inv, Z.q_bitlen, Z.t_bl, Z.t_int, Z.y_str, Z.y_int, Z.y_tup, Z.b_two, Z.eqH_int, Z.eqH_str, Z.p_mod, Z.p_fdiv, Z.p_mulI, Z.p_mulI', reduceIte, Bool.false_eq_true, Int.reduceLT, Int.reduceLE, Nat.reduceLeDiff, Nat.reduceSub, $ls,*])
set_option linter.all false
namespace Z
section
variable {sub : Nat → Nat → Bool} {P : List Def} {E : PX} {d : Nat}
theorem it_rng {n : Nat} {h : AH} (hn : n ≤ 1000) : iterOf .rng [.int n] h = some (itRng 0 n) := by
  have : okR (n : Int) = true := okR_iff.mpr (by omega)
  simp only [iterOf, ioV, ioR, ioE, ioZ, ioB, this, Int.toNat_natCast]; rfl
theorem w_crng {src : Exs} {cond : Txs} {elt : Ex} {σ : Lo} {h h1 : AH} {Q : PV} {n : Nat} (p : Nat → Bool) (g : Nat → D)
    (he : ∀ Q : List D → AH → Prop, Q [.int n] h1 → wpEs sub (wpCall sub P d) E src σ h Q) (hn : n ≤ 1000)
    (hs : ∀ k h2, k < n → h1 <+: h2 → wpC sub (wpCall sub P d) E cond (σ ++ [some (.int k)]) h2 fun c h3 => c = p k ∧ h2 <+: h3 ∧ (c = true → wpE sub (wpCall sub P d) E elt (σ ++ [some (.int k)]) h3 fun x h4 => x = g k ∧ h3 <+: h4))
    (q : ∀ h', h1 <+: h' → h'[h1.length]? = some (.lst (((List.range n).filter p).map g)) → Q (.ref h1.length) h') : wpE sub (wpCall sub P d) E (.comp .rng src 1 cond elt) σ h Q := by
  refine wp_comp (xs := (List.range n).map fun (k : Nat) => .int k) (J := itRng 0 n) (fun v => match v with | .int k => p k.toNat | _ => false) (fun v => match v with | .int k => g k.toNat | _ => .non) he (it_rng hn) (by simp; omega) ?_ ?_ ?_
  · intro i h2 _
    unfold itRng
    by_cases hi : i < n
    · rw [if_pos hi, List.getElem?_map, List.getElem?_range hi]; simp
    · rw [if_neg hi, List.getElem?_eq_none (by simp; omega)]
  · intro i v h2 ev pr
    have hk : i < n := by have := (List.getElem?_eq_some_iff.mp ev).1; simpa using this
    rw [List.getElem?_map, List.getElem?_range hk] at ev
    simp only [Option.map_some, Option.some.injEq] at ev
    subst ev
    exact ⟨_, rfl, by simpa only [Int.toNat_natCast] using hs i h2 hk pr⟩
  · intro h' pr e
    refine q h' pr ?_
    rw [e]
    congr 2
    rw [List.filter_map, List.map_map]
    rfl
theorem w_clst {src : Exs} {cond : Txs} {elt : Ex} {σ : Lo} {h h1 : AH} {Q : PV} {W : List Nat} {a : Nat} (p : Nat → Bool) (g : Nat → D)
    (he : ∀ Q : List D → AH → Prop, Q [.ref a] h1 → wpEs sub (wpCall sub P d) E src σ h Q) (ea : h1[a]? = some (.lst (W.map fun (k : Nat) => .int k))) (hn : W.length ≤ 1000)
    (hs : ∀ k h2, k ∈ W → h1 <+: h2 → wpC sub (wpCall sub P d) E cond (σ ++ [some (.int k)]) h2 fun c h3 => c = p k ∧ h2 <+: h3 ∧ (c = true → wpE sub (wpCall sub P d) E elt (σ ++ [some (.int k)]) h3 fun x h4 => x = g k ∧ h3 <+: h4))
    (q : ∀ h', h1 <+: h' → h'[h1.length]? = some (.lst ((W.filter p).map g)) → Q (.ref h1.length) h') : wpE sub (wpCall sub P d) E (.comp .val src 1 cond elt) σ h Q := by
  refine wp_comp (xs := W.map fun (k : Nat) => .int k) (J := itList a) (fun v => match v with | .int k => p k.toNat | _ => false) (fun v => match v with | .int k => g k.toNat | _ => .non) he (it_lst ea) (by simp; omega) (fun i h' pp => it_lst_at ea pp i) ?_ ?_
  · intro i v h2 ev pr
    obtain ⟨w, hw, rfl⟩ := List.mem_map.mp (List.mem_of_getElem? ev)
    exact ⟨_, rfl, by simpa only [Int.toNat_natCast] using hs w h2 hw pr⟩
  · intro h' pr e
    refine q h' pr ?_
    rw [e]
    congr 2
    rw [List.filter_map, List.map_map]
    rfl
end
end Z
namespace K10
open Z
section
variable {sub : Nat → Nat → Bool} {Γ : Gam} {E : PX} {K : En} {σ : Lo} {h : AH}
/-! 0 places(0 mask) -/
noncomputable def b_places_1 : Sms := .cons (.ret (.comp .rng (.cons (.mth .int .bitlen (.var 0) .nil) .nil) 1 (.one (.tru (.call 1 (.cons (.var 0) (.cons (.var 1) .nil)) []))) (.var 1))) .nil
theorem e_places_1 : wpSs sub Γ E b_places_1 K σ h = wpS sub Γ E (.ret (.comp .rng (.cons (.mth .int .bitlen (.var 0) .nil) .nil) 1 (.one (.tru (.call 1 (.cons (.var 0) (.cons (.var 1) .nil)) []))) (.var 1))) { K with nx := fun σ' h' => wpSs sub Γ E .nil K σ' h' } σ h := g_scons
noncomputable abbrev b_places : Sms := b_places_1
/-! 1 has(0 mask, 1 number) -/
noncomputable def b_has_1 : Sms := .cons (.ret (.prim .eq (.cons (.prim .band (.cons (.prim .shr (.cons (.var 0) (.cons (.var 1) .nil))) (.cons (.lit (.int 1)) .nil))) (.cons (.lit (.int 1)) .nil)))) .nil
theorem e_has_1 : wpSs sub Γ E b_has_1 K σ h = wpS sub Γ E (.ret (.prim .eq (.cons (.prim .band (.cons (.prim .shr (.cons (.var 0) (.cons (.var 1) .nil))) (.cons (.lit (.int 1)) .nil))) (.cons (.lit (.int 1)) .nil)))) { K with nx := fun σ' h' => wpSs sub Γ E .nil K σ' h' } σ h := g_scons
noncomputable abbrev b_has : Sms := b_has_1
/-! 2 shown_world(0 names, 1 world, 2 so) -/
noncomputable def b_shown_world_1 : Sms := .cons (.ret (.prim .add (.cons (.prim .add (.cons (.lit (.str (tx "{"))) (.cons (.mth .str .join (.lit (.str (tx " "))) (.cons (.var 2) .nil)) .nil))) (.cons (.lit (.str (tx "}"))) .nil)))) .nil
theorem e_shown_world_1 : wpSs sub Γ E b_shown_world_1 K σ h = wpS sub Γ E (.ret (.prim .add (.cons (.prim .add (.cons (.lit (.str (tx "{"))) (.cons (.mth .str .join (.lit (.str (tx " "))) (.cons (.var 2) .nil)) .nil))) (.cons (.lit (.str (tx "}"))) .nil)))) { K with nx := fun σ' h' => wpSs sub Γ E .nil K σ' h' } σ h := g_scons
noncomputable def b_shown_world_2 : Sms := .cons (.asg 2 (.comp .enum (.cons (.var 0) .nil) 2 (.one (.tru (.call 1 (.cons (.var 1) (.cons (.var 3) .nil)) []))) (.var 4))) b_shown_world_1
theorem e_shown_world_2 : wpSs sub Γ E b_shown_world_2 K σ h = wpS sub Γ E (.asg 2 (.comp .enum (.cons (.var 0) .nil) 2 (.one (.tru (.call 1 (.cons (.var 1) (.cons (.var 3) .nil)) []))) (.var 4))) { K with nx := fun σ' h' => wpSs sub Γ E b_shown_world_1 K σ' h' } σ h := g_scons
noncomputable abbrev b_shown_world : Sms := b_shown_world_2
/-! 3 _law_cell_at(0 script, 1 k) -/
noncomputable def b_law_cell_at_1 : Sms := .cons (.ret (.lit (.int 0))) .nil
theorem e_law_cell_at_1 : wpSs sub Γ E b_law_cell_at_1 K σ h = wpS sub Γ E (.ret (.lit (.int 0))) { K with nx := fun σ' h' => wpSs sub Γ E .nil K σ' h' } σ h := g_scons
noncomputable def b_law_cell_at_2 : Sms := .cons (.ret (.prim .idx (.cons (.var 0) (.cons (.var 1) .nil)))) .nil
theorem e_law_cell_at_2 : wpSs sub Γ E b_law_cell_at_2 K σ h = wpS sub Γ E (.ret (.prim .idx (.cons (.var 0) (.cons (.var 1) .nil)))) { K with nx := fun σ' h' => wpSs sub Γ E .nil K σ' h' } σ h := g_scons
noncomputable def b_law_cell_at_3 : Sms := .cons (.ife (.tru (.prim .lt (.cons (.var 1) (.cons (.prim .len (.cons (.var 0) .nil)) .nil)))) b_law_cell_at_2 .nil) b_law_cell_at_1
theorem e_law_cell_at_3 : wpSs sub Γ E b_law_cell_at_3 K σ h = wpS sub Γ E (.ife (.tru (.prim .lt (.cons (.var 1) (.cons (.prim .len (.cons (.var 0) .nil)) .nil)))) b_law_cell_at_2 .nil) { K with nx := fun σ' h' => wpSs sub Γ E b_law_cell_at_1 K σ' h' } σ h := g_scons
noncomputable abbrev b_law_cell_at : Sms := b_law_cell_at_3
/-! 4 _law_part(0 cell, 1 k, 2 number) -/
noncomputable def b_law_part_1 : Sms := .cons (.ret (.prim .fdiv (.cons (.prim .mod (.cons (.prim .mul (.cons (.var 2) (.cons (.var 2) .nil))) (.cons (.lit (.int 999999937)) .nil))) (.cons (.lit (.int 7)) .nil)))) .nil
theorem e_law_part_1 : wpSs sub Γ E b_law_part_1 K σ h = wpS sub Γ E (.ret (.prim .fdiv (.cons (.prim .mod (.cons (.prim .mul (.cons (.var 2) (.cons (.var 2) .nil))) (.cons (.lit (.int 999999937)) .nil))) (.cons (.lit (.int 7)) .nil)))) { K with nx := fun σ' h' => wpSs sub Γ E .nil K σ' h' } σ h := g_scons
noncomputable def b_law_part_2 : Sms := .cons (.asg 2 (.prim .mod (.cons (.prim .mul (.cons (.prim .add (.cons (.prim .add (.cons (.prim .mod (.cons (.var 0) (.cons (.lit (.int 1000000021)) .nil))) (.cons (.prim .mul (.cons (.lit (.int 7368787)) (.cons (.var 1) .nil))) .nil))) (.cons (.lit (.int 5)) .nil))) (.cons (.lit (.int 15485863)) .nil))) (.cons (.lit (.int 1000000021)) .nil)))) b_law_part_1
theorem e_law_part_2 : wpSs sub Γ E b_law_part_2 K σ h = wpS sub Γ E (.asg 2 (.prim .mod (.cons (.prim .mul (.cons (.prim .add (.cons (.prim .add (.cons (.prim .mod (.cons (.var 0) (.cons (.lit (.int 1000000021)) .nil))) (.cons (.prim .mul (.cons (.lit (.int 7368787)) (.cons (.var 1) .nil))) .nil))) (.cons (.lit (.int 5)) .nil))) (.cons (.lit (.int 15485863)) .nil))) (.cons (.lit (.int 1000000021)) .nil)))) { K with nx := fun σ' h' => wpSs sub Γ E b_law_part_1 K σ' h' } σ h := g_scons
noncomputable abbrev b_law_part : Sms := b_law_part_2
/-! 5 _law_names(0 cell, 1 many, 2 letters, 3 base, 4 at, 5 some, 6 k, 7 name) -/
noncomputable def b_law_names_1 : Sms := .cons (.ret (.prim .tuple_ (.cons (.prim .sorted_ (.cons (.var 5) .nil)) .nil))) .nil
theorem e_law_names_1 : wpSs sub Γ E b_law_names_1 K σ h = wpS sub Γ E (.ret (.prim .tuple_ (.cons (.prim .sorted_ (.cons (.var 5) .nil)) .nil))) { K with nx := fun σ' h' => wpSs sub Γ E .nil K σ' h' } σ h := g_scons
noncomputable def b_law_names_2 : Sms := .cons (.expr (.mth .list .append (.var 5) (.cons (.var 7) .nil))) .nil
theorem e_law_names_2 : wpSs sub Γ E b_law_names_2 K σ h = wpS sub Γ E (.expr (.mth .list .append (.var 5) (.cons (.var 7) .nil))) { K with nx := fun σ' h' => wpSs sub Γ E .nil K σ' h' } σ h := g_scons
noncomputable def b_law_names_3 : Sms := .cons (.asg 7 (.prim .add (.cons (.var 7) (.cons (.lit (.str (tx "s"))) .nil)))) .nil
theorem e_law_names_3 : wpSs sub Γ E b_law_names_3 K σ h = wpS sub Γ E (.asg 7 (.prim .add (.cons (.var 7) (.cons (.lit (.str (tx "s"))) .nil)))) { K with nx := fun σ' h' => wpSs sub Γ E .nil K σ' h' } σ h := g_scons
noncomputable def b_law_names_4 : Sms := .cons (.ife (.tru (.prim .in_ (.cons (.var 7) (.cons (.prim .mktup (.cons (.lit (.str (tx "always"))) (.cons (.lit (.str (tx "where"))) (.cons (.lit (.str (tx "usually"))) (.cons (.lit (.str (tx "not"))) (.cons (.lit (.str (tx "and"))) (.cons (.lit (.str (tx "or"))) .nil))))))) .nil)))) b_law_names_3 .nil) b_law_names_2
theorem e_law_names_4 : wpSs sub Γ E b_law_names_4 K σ h = wpS sub Γ E (.ife (.tru (.prim .in_ (.cons (.var 7) (.cons (.prim .mktup (.cons (.lit (.str (tx "always"))) (.cons (.lit (.str (tx "where"))) (.cons (.lit (.str (tx "usually"))) (.cons (.lit (.str (tx "not"))) (.cons (.lit (.str (tx "and"))) (.cons (.lit (.str (tx "or"))) .nil))))))) .nil)))) b_law_names_3 .nil) { K with nx := fun σ' h' => wpSs sub Γ E b_law_names_2 K σ' h' } σ h := g_scons
noncomputable def b_law_names_5 : Sms := .cons (.asg 7 (.prim .slH (.cons (.var 7) (.cons (.prim .add (.cons (.prim .add (.cons (.var 4) (.cons (.lit (.int 1)) .nil))) (.cons (.prim .mod (.cons (.call 4 (.cons (.var 0) (.cons (.prim .add (.cons (.lit (.int 16)) (.cons (.var 6) .nil))) .nil)) []) (.cons (.lit (.int 12)) .nil))) .nil))) .nil)))) .nil
theorem e_law_names_5 : wpSs sub Γ E b_law_names_5 K σ h = wpS sub Γ E (.asg 7 (.prim .slH (.cons (.var 7) (.cons (.prim .add (.cons (.prim .add (.cons (.var 4) (.cons (.lit (.int 1)) .nil))) (.cons (.prim .mod (.cons (.call 4 (.cons (.var 0) (.cons (.prim .add (.cons (.lit (.int 16)) (.cons (.var 6) .nil))) .nil)) []) (.cons (.lit (.int 12)) .nil))) .nil))) .nil)))) { K with nx := fun σ' h' => wpSs sub Γ E .nil K σ' h' } σ h := g_scons
noncomputable def b_law_names_6 : Sms := .cons (.ife (.tru (.prim .eq (.cons (.prim .mod (.cons (.call 4 (.cons (.var 0) (.cons (.lit (.int 15)) .nil)) []) (.cons (.lit (.int 2)) .nil))) (.cons (.lit (.int 1)) .nil)))) b_law_names_5 .nil) b_law_names_4
theorem e_law_names_6 : wpSs sub Γ E b_law_names_6 K σ h = wpS sub Γ E (.ife (.tru (.prim .eq (.cons (.prim .mod (.cons (.call 4 (.cons (.var 0) (.cons (.lit (.int 15)) .nil)) []) (.cons (.lit (.int 2)) .nil))) (.cons (.lit (.int 1)) .nil)))) b_law_names_5 .nil) { K with nx := fun σ' h' => wpSs sub Γ E b_law_names_4 K σ' h' } σ h := g_scons
noncomputable def b_law_names_7 : Sms := .cons (.asg 7 (.prim .add (.cons (.prim .add (.cons (.mth .str .join (.lit (.str (tx ""))) (.cons (.prim .slH (.cons (.var 3) (.cons (.var 4) .nil))) .nil)) (.cons (.prim .idx (.cons (.var 2) (.cons (.prim .mod (.cons (.prim .add (.cons (.call 4 (.cons (.var 0) (.cons (.lit (.int 14)) .nil)) []) (.cons (.prim .mul (.cons (.lit (.int 7)) (.cons (.var 6) .nil))) .nil))) (.cons (.lit (.int 26)) .nil))) .nil))) .nil))) (.cons (.mth .str .join (.lit (.str (tx ""))) (.cons (.prim .slL (.cons (.var 3) (.cons (.prim .add (.cons (.var 4) (.cons (.lit (.int 1)) .nil))) .nil))) .nil)) .nil)))) b_law_names_6
theorem e_law_names_7 : wpSs sub Γ E b_law_names_7 K σ h = wpS sub Γ E (.asg 7 (.prim .add (.cons (.prim .add (.cons (.mth .str .join (.lit (.str (tx ""))) (.cons (.prim .slH (.cons (.var 3) (.cons (.var 4) .nil))) .nil)) (.cons (.prim .idx (.cons (.var 2) (.cons (.prim .mod (.cons (.prim .add (.cons (.call 4 (.cons (.var 0) (.cons (.lit (.int 14)) .nil)) []) (.cons (.prim .mul (.cons (.lit (.int 7)) (.cons (.var 6) .nil))) .nil))) (.cons (.lit (.int 26)) .nil))) .nil))) .nil))) (.cons (.mth .str .join (.lit (.str (tx ""))) (.cons (.prim .slL (.cons (.var 3) (.cons (.prim .add (.cons (.var 4) (.cons (.lit (.int 1)) .nil))) .nil))) .nil)) .nil)))) { K with nx := fun σ' h' => wpSs sub Γ E b_law_names_6 K σ' h' } σ h := g_scons
noncomputable def b_law_names_8 : Sms := .cons (.forr [6] .rng (.cons (.var 1) .nil) b_law_names_7) b_law_names_1
theorem e_law_names_8 : wpSs sub Γ E b_law_names_8 K σ h = wpS sub Γ E (.forr [6] .rng (.cons (.var 1) .nil) b_law_names_7) { K with nx := fun σ' h' => wpSs sub Γ E b_law_names_1 K σ' h' } σ h := g_scons
noncomputable def b_law_names_9 : Sms := .cons (.asg 5 (.prim .mklst .nil)) b_law_names_8
theorem e_law_names_9 : wpSs sub Γ E b_law_names_9 K σ h = wpS sub Γ E (.asg 5 (.prim .mklst .nil)) { K with nx := fun σ' h' => wpSs sub Γ E b_law_names_8 K σ' h' } σ h := g_scons
noncomputable def b_law_names_10 : Sms := .cons (.asg 4 (.prim .mod (.cons (.call 4 (.cons (.var 0) (.cons (.lit (.int 13)) .nil)) []) (.cons (.prim .len (.cons (.var 3) .nil)) .nil)))) b_law_names_9
theorem e_law_names_10 : wpSs sub Γ E b_law_names_10 K σ h = wpS sub Γ E (.asg 4 (.prim .mod (.cons (.call 4 (.cons (.var 0) (.cons (.lit (.int 13)) .nil)) []) (.cons (.prim .len (.cons (.var 3) .nil)) .nil)))) { K with nx := fun σ' h' => wpSs sub Γ E b_law_names_9 K σ' h' } σ h := g_scons
noncomputable def b_law_names_11 : Sms := .cons (.asg 3 (.comp .rng (.cons (.prim .add (.cons (.lit (.int 1)) (.cons (.prim .mod (.cons (.call 4 (.cons (.var 0) (.cons (.lit (.int 0)) .nil)) []) (.cons (.lit (.int 12)) .nil))) .nil))) .nil) 1 .none (.prim .idx (.cons (.var 2) (.cons (.prim .mod (.cons (.call 4 (.cons (.var 0) (.cons (.prim .add (.cons (.lit (.int 1)) (.cons (.var 8) .nil))) .nil)) []) (.cons (.lit (.int 26)) .nil))) .nil))))) b_law_names_10
theorem e_law_names_11 : wpSs sub Γ E b_law_names_11 K σ h = wpS sub Γ E (.asg 3 (.comp .rng (.cons (.prim .add (.cons (.lit (.int 1)) (.cons (.prim .mod (.cons (.call 4 (.cons (.var 0) (.cons (.lit (.int 0)) .nil)) []) (.cons (.lit (.int 12)) .nil))) .nil))) .nil) 1 .none (.prim .idx (.cons (.var 2) (.cons (.prim .mod (.cons (.call 4 (.cons (.var 0) (.cons (.prim .add (.cons (.lit (.int 1)) (.cons (.var 8) .nil))) .nil)) []) (.cons (.lit (.int 26)) .nil))) .nil))))) { K with nx := fun σ' h' => wpSs sub Γ E b_law_names_10 K σ' h' } σ h := g_scons
noncomputable def b_law_names_12 : Sms := .cons (.asg 2 (.lit (.str (tx "abcdefghijklmnopqrstuvwxyz")))) b_law_names_11
theorem e_law_names_12 : wpSs sub Γ E b_law_names_12 K σ h = wpS sub Γ E (.asg 2 (.lit (.str (tx "abcdefghijklmnopqrstuvwxyz")))) { K with nx := fun σ' h' => wpSs sub Γ E b_law_names_11 K σ' h' } σ h := g_scons
noncomputable abbrev b_law_names : Sms := b_law_names_12
/-! 6 _law_numbers(0 found) -/
noncomputable def b_law_numbers_1 : Sms := .cons (.ret (.prim .eq (.cons (.comp .val (.cons (.var 0) .nil) 1 (.one (.or (.not (.tru (.prim (.isi .int) (.cons (.var 1) .nil)))) (.tru (.prim (.isi .bool) (.cons (.var 1) .nil))))) (.var 1)) (.cons (.prim .mklst .nil) .nil)))) .nil
theorem e_law_numbers_1 : wpSs sub Γ E b_law_numbers_1 K σ h = wpS sub Γ E (.ret (.prim .eq (.cons (.comp .val (.cons (.var 0) .nil) 1 (.one (.or (.not (.tru (.prim (.isi .int) (.cons (.var 1) .nil)))) (.tru (.prim (.isi .bool) (.cons (.var 1) .nil))))) (.var 1)) (.cons (.prim .mklst .nil) .nil)))) { K with nx := fun σ' h' => wpSs sub Γ E .nil K σ' h' } σ h := g_scons
noncomputable def b_law_numbers_2 : Sms := .cons (.ret (.lit (.bl false))) .nil
noncomputable def b_law_numbers_3 : Sms := .cons (.ife (.not (.tru (.prim (.isi .list) (.cons (.var 0) .nil)))) b_law_numbers_2 .nil) b_law_numbers_1
theorem e_law_numbers_3 : wpSs sub Γ E b_law_numbers_3 K σ h = wpS sub Γ E (.ife (.not (.tru (.prim (.isi .list) (.cons (.var 0) .nil)))) b_law_numbers_2 .nil) { K with nx := fun σ' h' => wpSs sub Γ E b_law_numbers_1 K σ' h' } σ h := g_scons
noncomputable abbrev b_law_numbers : Sms := b_law_numbers_3
/-! 7 _law_placed(0 mask, 1 due, 2 found) -/
noncomputable def b_law_placed_1 : Sms := .cons (.ret (.prim .eq (.cons (.call 0 (.cons (.var 0) .nil) []) (.cons (.var 1) .nil)))) .nil
theorem e_law_placed_1 : wpSs sub Γ E b_law_placed_1 K σ h = wpS sub Γ E (.ret (.prim .eq (.cons (.call 0 (.cons (.var 0) .nil) []) (.cons (.var 1) .nil)))) { K with nx := fun σ' h' => wpSs sub Γ E .nil K σ' h' } σ h := g_scons
noncomputable def b_law_placed_2 : Sms := .cons (.expr (.mth .list .append (.var 2) (.cons (.lit (.int 64)) .nil))) b_law_placed_1
theorem e_law_placed_2 : wpSs sub Γ E b_law_placed_2 K σ h = wpS sub Γ E (.expr (.mth .list .append (.var 2) (.cons (.lit (.int 64)) .nil))) { K with nx := fun σ' h' => wpSs sub Γ E b_law_placed_1 K σ' h' } σ h := g_scons
noncomputable def b_law_placed_3 : Sms := .cons (.ret (.lit (.bl false))) .nil
noncomputable def b_law_placed_4 : Sms := .cons (.ife (.or (.not (.tru (.call 6 (.cons (.var 2) .nil) []))) (.tru (.prim .ne (.cons (.var 2) (.cons (.var 1) .nil))))) b_law_placed_3 .nil) b_law_placed_2
theorem e_law_placed_4 : wpSs sub Γ E b_law_placed_4 K σ h = wpS sub Γ E (.ife (.or (.not (.tru (.call 6 (.cons (.var 2) .nil) []))) (.tru (.prim .ne (.cons (.var 2) (.cons (.var 1) .nil))))) b_law_placed_3 .nil) { K with nx := fun σ' h' => wpSs sub Γ E b_law_placed_2 K σ' h' } σ h := g_scons
noncomputable def b_law_placed_5 : Sms := .cons (.asg 2 (.call 0 (.cons (.var 0) .nil) [])) b_law_placed_4
theorem e_law_placed_5 : wpSs sub Γ E b_law_placed_5 K σ h = wpS sub Γ E (.asg 2 (.call 0 (.cons (.var 0) .nil) [])) { K with nx := fun σ' h' => wpSs sub Γ E b_law_placed_4 K σ' h' } σ h := g_scons
noncomputable def b_law_placed_6 : Sms := .cons (.asg 1 (.comp .rng (.cons (.lit (.int 64)) .nil) 1 (.one (.tru (.prim .eq (.cons (.prim .mod (.cons (.prim .fdiv (.cons (.var 0) (.cons (.prim .shl (.cons (.lit (.int 1)) (.cons (.var 3) .nil))) .nil))) (.cons (.lit (.int 2)) .nil))) (.cons (.lit (.int 1)) .nil))))) (.var 3))) b_law_placed_5
theorem e_law_placed_6 : wpSs sub Γ E b_law_placed_6 K σ h = wpS sub Γ E (.asg 1 (.comp .rng (.cons (.lit (.int 64)) .nil) 1 (.one (.tru (.prim .eq (.cons (.prim .mod (.cons (.prim .fdiv (.cons (.var 0) (.cons (.prim .shl (.cons (.lit (.int 1)) (.cons (.var 3) .nil))) .nil))) (.cons (.lit (.int 2)) .nil))) (.cons (.lit (.int 1)) .nil))))) (.var 3))) { K with nx := fun σ' h' => wpSs sub Γ E b_law_placed_5 K σ' h' } σ h := g_scons
noncomputable abbrev b_law_placed : Sms := b_law_placed_6
/-! 8 _law_shown(0 names, 1 world, 2 words, 3 k, 4 found) -/
noncomputable def b_law_shown_1 : Sms := .cons (.ret (.andV (.prim (.isi .str) (.cons (.var 4) .nil)) (.prim .eq (.cons (.var 4) (.cons (.prim .add (.cons (.prim .add (.cons (.lit (.str (tx "{"))) (.cons (.var 2) .nil))) (.cons (.lit (.str (tx "}"))) .nil))) .nil))))) .nil
theorem e_law_shown_1 : wpSs sub Γ E b_law_shown_1 K σ h = wpS sub Γ E (.ret (.andV (.prim (.isi .str) (.cons (.var 4) .nil)) (.prim .eq (.cons (.var 4) (.cons (.prim .add (.cons (.prim .add (.cons (.lit (.str (tx "{"))) (.cons (.var 2) .nil))) (.cons (.lit (.str (tx "}"))) .nil))) .nil))))) { K with nx := fun σ' h' => wpSs sub Γ E .nil K σ' h' } σ h := g_scons
noncomputable def b_law_shown_2 : Sms := .cons (.asg 4 (.call 2 (.cons (.var 0) (.cons (.var 1) .nil)) [])) b_law_shown_1
theorem e_law_shown_2 : wpSs sub Γ E b_law_shown_2 K σ h = wpS sub Γ E (.asg 4 (.call 2 (.cons (.var 0) (.cons (.var 1) .nil)) [])) { K with nx := fun σ' h' => wpSs sub Γ E b_law_shown_1 K σ' h' } σ h := g_scons
noncomputable def b_law_shown_3 : Sms := .cons (.asg 2 (.prim .add (.cons (.prim .add (.cons (.var 2) (.cons (.lit (.str (tx " "))) .nil))) (.cons (.prim .idx (.cons (.var 0) (.cons (.var 3) .nil))) .nil)))) .nil
theorem e_law_shown_3 : wpSs sub Γ E b_law_shown_3 K σ h = wpS sub Γ E (.asg 2 (.prim .add (.cons (.prim .add (.cons (.var 2) (.cons (.lit (.str (tx " "))) .nil))) (.cons (.prim .idx (.cons (.var 0) (.cons (.var 3) .nil))) .nil)))) { K with nx := fun σ' h' => wpSs sub Γ E .nil K σ' h' } σ h := g_scons
noncomputable def b_law_shown_4 : Sms := .cons (.asg 2 (.prim .idx (.cons (.var 0) (.cons (.var 3) .nil)))) .nil
theorem e_law_shown_4 : wpSs sub Γ E b_law_shown_4 K σ h = wpS sub Γ E (.asg 2 (.prim .idx (.cons (.var 0) (.cons (.var 3) .nil)))) { K with nx := fun σ' h' => wpSs sub Γ E .nil K σ' h' } σ h := g_scons
noncomputable def b_law_shown_5 : Sms := .cons (.ife (.tru (.prim .eq (.cons (.prim .mod (.cons (.prim .fdiv (.cons (.var 1) (.cons (.prim .shl (.cons (.lit (.int 1)) (.cons (.var 3) .nil))) .nil))) (.cons (.lit (.int 2)) .nil))) (.cons (.lit (.int 1)) .nil)))) b_law_shown_4 .nil) .nil
theorem e_law_shown_5 : wpSs sub Γ E b_law_shown_5 K σ h = wpS sub Γ E (.ife (.tru (.prim .eq (.cons (.prim .mod (.cons (.prim .fdiv (.cons (.var 1) (.cons (.prim .shl (.cons (.lit (.int 1)) (.cons (.var 3) .nil))) .nil))) (.cons (.lit (.int 2)) .nil))) (.cons (.lit (.int 1)) .nil)))) b_law_shown_4 .nil) { K with nx := fun σ' h' => wpSs sub Γ E .nil K σ' h' } σ h := g_scons
noncomputable def b_law_shown_6 : Sms := .cons (.ife (.and (.tru (.prim .eq (.cons (.prim .mod (.cons (.prim .fdiv (.cons (.var 1) (.cons (.prim .shl (.cons (.lit (.int 1)) (.cons (.var 3) .nil))) .nil))) (.cons (.lit (.int 2)) .nil))) (.cons (.lit (.int 1)) .nil)))) (.tru (.prim .ne (.cons (.var 2) (.cons (.lit (.str (tx ""))) .nil))))) b_law_shown_3 b_law_shown_5) .nil
theorem e_law_shown_6 : wpSs sub Γ E b_law_shown_6 K σ h = wpS sub Γ E (.ife (.and (.tru (.prim .eq (.cons (.prim .mod (.cons (.prim .fdiv (.cons (.var 1) (.cons (.prim .shl (.cons (.lit (.int 1)) (.cons (.var 3) .nil))) .nil))) (.cons (.lit (.int 2)) .nil))) (.cons (.lit (.int 1)) .nil)))) (.tru (.prim .ne (.cons (.var 2) (.cons (.lit (.str (tx ""))) .nil))))) b_law_shown_3 b_law_shown_5) { K with nx := fun σ' h' => wpSs sub Γ E .nil K σ' h' } σ h := g_scons
noncomputable def b_law_shown_7 : Sms := .cons (.forr [3] .rng (.cons (.prim .len (.cons (.var 0) .nil)) .nil) b_law_shown_6) b_law_shown_2
theorem e_law_shown_7 : wpSs sub Γ E b_law_shown_7 K σ h = wpS sub Γ E (.forr [3] .rng (.cons (.prim .len (.cons (.var 0) .nil)) .nil) b_law_shown_6) { K with nx := fun σ' h' => wpSs sub Γ E b_law_shown_2 K σ' h' } σ h := g_scons
noncomputable def b_law_shown_8 : Sms := .cons (.asg 2 (.lit (.str (tx "")))) b_law_shown_7
theorem e_law_shown_8 : wpSs sub Γ E b_law_shown_8 K σ h = wpS sub Γ E (.asg 2 (.lit (.str (tx "")))) { K with nx := fun σ' h' => wpSs sub Γ E b_law_shown_7 K σ' h' } σ h := g_scons
noncomputable abbrev b_law_shown : Sms := b_law_shown_8
/-! 9 law(0 script, 1 first, 2 row, 3 drawn, 4 k, 5 names, 6 world) -/
noncomputable def b_law_1 : Sms := .cons (.ret (.lit (.bl true))) .nil
theorem e_law_1 : wpSs sub Γ E b_law_1 K σ h = wpS sub Γ E (.ret (.lit (.bl true))) { K with nx := fun σ' h' => wpSs sub Γ E .nil K σ' h' } σ h := g_scons
noncomputable def b_law_2 : Sms := .cons (.ret (.lit (.bl false))) .nil
noncomputable def b_law_3 : Sms := .cons (.ife (.not (.tru (.call 8 (.cons (.var 5) (.cons (.var 6) .nil)) []))) b_law_2 .nil) .nil
theorem e_law_3 : wpSs sub Γ E b_law_3 K σ h = wpS sub Γ E (.ife (.not (.tru (.call 8 (.cons (.var 5) (.cons (.var 6) .nil)) []))) b_law_2 .nil) { K with nx := fun σ' h' => wpSs sub Γ E .nil K σ' h' } σ h := g_scons
noncomputable def b_law_4 : Sms := .cons (.forr [6] .rng (.cons (.prim .shl (.cons (.lit (.int 1)) (.cons (.prim .len (.cons (.var 5) .nil)) .nil))) .nil) b_law_3) b_law_1
theorem e_law_4 : wpSs sub Γ E b_law_4 K σ h = wpS sub Γ E (.forr [6] .rng (.cons (.prim .shl (.cons (.lit (.int 1)) (.cons (.prim .len (.cons (.var 5) .nil)) .nil))) .nil) b_law_3) { K with nx := fun σ' h' => wpSs sub Γ E b_law_1 K σ' h' } σ h := g_scons
noncomputable def b_law_5 : Sms := .cons (.asg 5 (.call 5 (.cons (.var 1) (.cons (.prim .mod (.cons (.call 4 (.cons (.var 1) (.cons (.lit (.int 40)) .nil)) []) (.cons (.lit (.int 7)) .nil))) .nil)) [])) b_law_4
theorem e_law_5 : wpSs sub Γ E b_law_5 K σ h = wpS sub Γ E (.asg 5 (.call 5 (.cons (.var 1) (.cons (.prim .mod (.cons (.call 4 (.cons (.var 1) (.cons (.lit (.int 40)) .nil)) []) (.cons (.lit (.int 7)) .nil))) .nil)) [])) { K with nx := fun σ' h' => wpSs sub Γ E b_law_4 K σ' h' } σ h := g_scons
noncomputable def b_law_6 : Sms := .cons (.ret (.lit (.bl false))) .nil
noncomputable def b_law_7 : Sms := .cons (.ife (.or (.not (.tru (.call 7 (.cons (.prim .mod (.cons (.var 3) (.cons (.prim .shl (.cons (.lit (.int 1)) (.cons (.lit (.int 64)) .nil))) .nil))) .nil) []))) (.not (.tru (.call 7 (.cons (.prim .shr (.cons (.prim .mod (.cons (.var 3) (.cons (.prim .shl (.cons (.lit (.int 1)) (.cons (.lit (.int 64)) .nil))) .nil))) (.cons (.prim .mod (.cons (.var 3) (.cons (.lit (.int 65)) .nil))) .nil))) .nil) [])))) b_law_6 .nil) b_law_5
theorem e_law_7 : wpSs sub Γ E b_law_7 K σ h = wpS sub Γ E (.ife (.or (.not (.tru (.call 7 (.cons (.prim .mod (.cons (.var 3) (.cons (.prim .shl (.cons (.lit (.int 1)) (.cons (.lit (.int 64)) .nil))) .nil))) .nil) []))) (.not (.tru (.call 7 (.cons (.prim .shr (.cons (.prim .mod (.cons (.var 3) (.cons (.prim .shl (.cons (.lit (.int 1)) (.cons (.lit (.int 64)) .nil))) .nil))) (.cons (.prim .mod (.cons (.var 3) (.cons (.lit (.int 65)) .nil))) .nil))) .nil) [])))) b_law_6 .nil) { K with nx := fun σ' h' => wpSs sub Γ E b_law_5 K σ' h' } σ h := g_scons
noncomputable def b_law_8 : Sms := .cons (.asg 3 (.prim .add (.cons (.prim .mul (.cons (.var 3) (.cons (.lit (.int 142857134)) .nil))) (.cons (.call 4 (.cons (.var 1) (.cons (.prim .add (.cons (.lit (.int 30)) (.cons (.var 4) .nil))) .nil)) []) .nil)))) .nil
theorem e_law_8 : wpSs sub Γ E b_law_8 K σ h = wpS sub Γ E (.asg 3 (.prim .add (.cons (.prim .mul (.cons (.var 3) (.cons (.lit (.int 142857134)) .nil))) (.cons (.call 4 (.cons (.var 1) (.cons (.prim .add (.cons (.lit (.int 30)) (.cons (.var 4) .nil))) .nil)) []) .nil)))) { K with nx := fun σ' h' => wpSs sub Γ E .nil K σ' h' } σ h := g_scons
noncomputable def b_law_9 : Sms := .cons (.forr [4] .rng (.cons (.lit (.int 3)) .nil) b_law_8) b_law_7
theorem e_law_9 : wpSs sub Γ E b_law_9 K σ h = wpS sub Γ E (.forr [4] .rng (.cons (.lit (.int 3)) .nil) b_law_8) { K with nx := fun σ' h' => wpSs sub Γ E b_law_7 K σ' h' } σ h := g_scons
noncomputable def b_law_10 : Sms := .cons (.asg 3 (.lit (.int 0))) b_law_9
theorem e_law_10 : wpSs sub Γ E b_law_10 K σ h = wpS sub Γ E (.asg 3 (.lit (.int 0))) { K with nx := fun σ' h' => wpSs sub Γ E b_law_9 K σ' h' } σ h := g_scons
noncomputable def b_law_11 : Sms := .cons (.ret (.lit (.bl false))) .nil
noncomputable def b_law_12 : Sms := .cons (.ife (.not (.tru (.call 7 (.cons (.prim .sum1 (.cons (.comp .val (.cons (.var 2) .nil) 1 .none (.prim .shl (.cons (.lit (.int 1)) (.cons (.var 7) .nil)))) .nil)) .nil) []))) b_law_11 .nil) b_law_10
theorem e_law_12 : wpSs sub Γ E b_law_12 K σ h = wpS sub Γ E (.ife (.not (.tru (.call 7 (.cons (.prim .sum1 (.cons (.comp .val (.cons (.var 2) .nil) 1 .none (.prim .shl (.cons (.lit (.int 1)) (.cons (.var 7) .nil)))) .nil)) .nil) []))) b_law_11 .nil) { K with nx := fun σ' h' => wpSs sub Γ E b_law_10 K σ' h' } σ h := g_scons
noncomputable def b_law_13 : Sms := .cons (.asg 2 (.sset (.comp .val (.cons (.prim .slH (.cons (.var 0) (.cons (.lit (.int 120)) .nil))) .nil) 1 .none (.prim .mod (.cons (.var 7) (.cons (.lit (.int 64)) .nil)))))) b_law_12
theorem e_law_13 : wpSs sub Γ E b_law_13 K σ h = wpS sub Γ E (.asg 2 (.sset (.comp .val (.cons (.prim .slH (.cons (.var 0) (.cons (.lit (.int 120)) .nil))) .nil) 1 .none (.prim .mod (.cons (.var 7) (.cons (.lit (.int 64)) .nil)))))) { K with nx := fun σ' h' => wpSs sub Γ E b_law_12 K σ' h' } σ h := g_scons
noncomputable def b_law_14 : Sms := .cons (.asg 1 (.call 3 (.cons (.var 0) (.cons (.lit (.int 0)) .nil)) [])) b_law_13
theorem e_law_14 : wpSs sub Γ E b_law_14 K σ h = wpS sub Γ E (.asg 1 (.call 3 (.cons (.var 0) (.cons (.lit (.int 0)) .nil)) [])) { K with nx := fun σ' h' => wpSs sub Γ E b_law_13 K σ' h' } σ h := g_scons
noncomputable abbrev b_law : Sms := b_law_14
end
noncomputable def P : List Def := [⟨1, 1, b_places⟩, ⟨2, 2, b_has⟩, ⟨2, 3, b_shown_world⟩, ⟨2, 2, b_law_cell_at⟩, ⟨2, 3, b_law_part⟩, ⟨2, 8, b_law_names⟩, ⟨1, 1, b_law_numbers⟩, ⟨1, 3, b_law_placed⟩, ⟨2, 5, b_law_shown⟩, ⟨1, 7, b_law⟩]
end K10

set_option linter.all false
set_option maxHeartbeats 1000000
set_option maxRecDepth 10000
namespace K10
open Z
seal wpE wpEs wpT wpC wpS wpSs wpCall
noncomputable abbrev sb : Nat → Nat → Bool := fun _ _ => false
section
variable {d : Nat} {h : AH} {Q : PV} {E : PX}
theorem c_cell {ns : List Int} {k : Int} (hk : 0 ≤ k) (q : ∀ c, Q (.int c) h) : wpCall sb P (d + 1) 3 [.rol (ns.map .int), .int k] h Q E := by
  refine wp_call rfl rfl ?_
  simp! only [e_law_cell_at_1, e_law_cell_at_2, e_law_cell_at_3]
  by_cases hl : k < (List.map D.int ns).length
  · rw [decide_eq_true hl, if_pos rfl, atI_of hk, List.getElem?_map]
    rw [List.length_map] at hl
    rw [List.getElem?_eq_getElem (by omega)]
    exact q _
  · rw [decide_eq_false hl, if_neg (by decide)]; exact q _
noncomputable def part (cell k : Int) : Int := ((cell % 1000000021 + 7368787 * k + 5) * 15485863 % 1000000021) * ((cell % 1000000021 + 7368787 * k + 5) * 15485863 % 1000000021) % 999999937 / 7
theorem c_part {cell k : Int} (q : Q (.int (part cell k)) h) : wpCall sb P (d + 1) 4 [.int cell, .int k] h Q E := by
  refine wp_call rfl rfl ?_
  have h0 := Int.emod_nonneg ((cell % 1000000021 + 7368787 * k + 5) * 15485863) (show (1000000021 : Int) ≠ 0 by decide)
  have h1 := Int.emod_lt_of_pos ((cell % 1000000021 + 7368787 * k + 5) * 15485863) (show (0 : Int) < 1000000021 by decide)
  simp! only [e_law_part_1, e_law_part_2, p_mulI (i := (cell % 1000000021 + 7368787 * k + 5) * 15485863 % 1000000021) (j := (cell % 1000000021 + 7368787 * k + 5) * 15485863 % 1000000021) (show _ ∧ _ from ⟨by omega, by omega⟩)]
  exact q
noncomputable abbrev lets : D := .str (tx "abcdefghijklmnopqrstuvwxyz")
theorem let_len : (tx "abcdefghijklmnopqrstuvwxyz").length = 26 := by decide
noncomputable def lc (z : Int) : Nat := (tx "abcdefghijklmnopqrstuvwxyz")[(z % 26).toNat]'(by rw [let_len]; have := Int.emod_lt_of_pos z (show (0 : Int) < 26 by decide); have := Int.emod_nonneg z (show (26 : Int) ≠ 0 by decide); omega)
theorem lc_at (z : Int) : atI (tx "abcdefghijklmnopqrstuvwxyz") (z % 26) = some (lc z) := by
  rw [atI_of (Int.emod_nonneg z (by decide)), lc, List.getElem?_eq_getElem]
theorem lc_inj {y z : Int} (e : lc y = lc z) : y % 26 = z % 26 := by
  have nd : (tx "abcdefghijklmnopqrstuvwxyz").Nodup := by decide
  have h0 := Int.emod_nonneg y (show (26 : Int) ≠ 0 by decide)
  have h1 := Int.emod_nonneg z (show (26 : Int) ≠ 0 by decide)
  have := (List.getElem_inj nd).mp e
  omega
theorem joinS_one : ∀ l : List Nat, joinS [] (l.map fun c => [c]) = l
  | [] => rfl
  | [x] => rfl
  | x :: y :: r => by
    have ih := joinS_one (y :: r)
    show [x] ++ [] ++ joinS [] ((y :: r).map fun c => [c]) = _
    rw [ih]; rfl
theorem cut_takeL {α : Type} {xs : List α} {n : Nat} : cut xs none (some (n : Int)) = xs.take n := by
  simp only [cut, sIx]
  rw [if_neg (by omega), List.drop_zero, Nat.sub_zero, List.take_eq_take_iff]
  omega
theorem cut_drop {α : Type} {xs : List α} {n : Nat} (h : n ≤ xs.length) : cut xs (some (n : Int)) none = xs.drop n := by
  simp only [cut, sIx]
  rw [if_neg (by omega)]
  have e : (min (n : Int) (xs.length : Int)).toNat = n := by omega
  rw [e, List.take_of_length_le (by simp)]
noncomputable def strs1 (l : List Nat) : List D := l.map fun c => .str [c]
theorem strs1_of (l : List Nat) : strsOf (strs1 l) = some (l.map fun c => [c]) := by
  have : strs1 l = (l.map fun c => [c]).map .str := by simp [strs1]
  rw [this, strsOf_map]
theorem q_join1 {l : List Nat} {a : Nat} (ha : h[a]? = some (.lst (strs1 l))) (hl : l.length ≤ 1000) : prim sb .join [.str (tx ""), .ref a] h = some (.str l, h) := by
  show (match h[a]? with | some (.lst xs) => _ | _ => none) = _
  rw [ha]
  show ((strsOf (strs1 l)).bind _) = _
  rw [strs1_of, Option.bind_some]
  have e : tx "" = [] := by decide
  rw [e, if_pos, joinS_one]
  have e2 : ((l.map fun c => [c]).map fun s => s.length) = List.replicate l.length 1 := by
    rw [List.map_map, List.eq_replicate_iff]
    exact ⟨by simp, fun b hb => by obtain ⟨_, _, rfl⟩ := List.mem_map.mp hb; rfl⟩
  rw [e2]; simp [lim]; omega
theorem q_slHL {xs : List D} {a : Nat} {i : Int} (ha : h[a]? = some (.lst xs)) (hl : xs.length ≤ 16777216) : prim sb .slH [.ref a, .int i] h = some (.ref h.length, h ++ [.lst (cut xs none (some i))]) := by
  show pSlice (.ref a) none (some i) h = _
  unfold pSlice
  simp only [ha]
  exact if_pos (Nat.le_trans cut_len hl)
theorem q_slLL {xs : List D} {a : Nat} {i : Int} (ha : h[a]? = some (.lst xs)) (hl : xs.length ≤ 16777216) : prim sb .slL [.ref a, .int i] h = some (.ref h.length, h ++ [.lst (cut xs (some i) none)]) := by
  show pSlice (.ref a) (some i) none h = _
  unfold pSlice
  simp only [ha]
  exact if_pos (Nat.le_trans cut_len hl)
noncomputable def NmP (c0 : Int) (at_ : Nat) (k : Nat) (s : S) : Prop := s[at_]? = some (lc (c0 + 7 * k)) ∧ s.length ≤ 20
theorem nmp_ne {c0 : Int} {at_ j k : Nat} {s t : S} (hs : NmP c0 at_ j s) (ht : NmP c0 at_ k t) (hjk : j < k) (hk : k < 7) : s ≠ t := by
  rintro rfl
  have := hs.1.symm.trans ht.1
  have := lc_inj (Option.some.inj this)
  omega
noncomputable def NI (cell : Int) (n ba at_ : Nat) (h0 : AH) (i : Nat) : Lo → AH → Prop := fun σ h' => ∃ (ss : List S) (x6 x7 : Option D), h0 <+: h' ∧ h'[h0.length]? = some (.lst (ss.map .str)) ∧ ss.length = i ∧ (∀ j s, ss[j]? = some s → NmP (part cell 14) at_ j s) ∧
  σ = [some (.int cell), some (.int n), some lets, some (.ref ba), some (.int at_), some (.ref h0.length), x6, x7]
theorem c_names_loop {cell : Int} {n ba at_ : Nat} {bs : List Nat} (hn : n ≤ 6) (hb : h[ba]? = some (.lst (strs1 bs))) (hbl : bs.length ≤ 12) (hat : at_ < bs.length)
    (q : ∀ h' (N : List S), h <+: h' → N.Nodup → N.length = n → (∀ s ∈ N, 1 ≤ s.length ∧ s.length ≤ 20) → Q (.tup (N.map .str)) h') :
    wpSs sb (wpCall sb P (d + 1)) E b_law_names_9 { nx := fun _ h => Q .non h, rt := Q } [some (.int cell), some (.int n), some lets, some (.ref ba), some (.int at_), none, none, none] h := by
  simp! only [e_law_names_9, e_law_names_8]
  refine wp_rng (lo := 0) (n := n) (vs := [.int n]) (h1 := h ++ [.lst []]) (NI cell n ba at_ h) (fun Q q => by simp! only; exact q) (by simp [iterOf, ioV, ioR, ioE, ioZ, ioB, okR]; omega) ⟨[], none, none, List.prefix_append _ _, by simp, rfl, by simp, rfl⟩ ?_ ?_
  · rintro i σ h' hi ⟨ss, x6, x7, pr, hs, hl, hp, rfl⟩
    refine ⟨_, rfl, ?_⟩
    have hb' := pre_get pr hb
    have hb1 := get_app (l := [AO.lst (cut (strs1 bs) none (some (at_ : Int)))]) hb'
    have e1 : cut (strs1 bs) none (some (at_ : Int)) = strs1 (bs.take at_) := by rw [cut_takeL]; simp [strs1, List.map_take]
    have e2 : cut (strs1 bs) (some ((at_ : Int) + 1)) none = strs1 (bs.drop (at_ + 1)) := by
      rw [show (at_ : Int) + 1 = ((at_ + 1 : Nat) : Int) by omega, cut_drop (by simp [strs1]; omega)]; simp [strs1, List.map_drop]
    have hsl : (strs1 bs).length ≤ 16777216 := by simp [strs1]; omega
    have j1 : prim sb .join [.str (tx ""), .ref h'.length] (h' ++ [AO.lst (cut (strs1 bs) none (some (at_ : Int)))]) = some (.str (bs.take at_), _) := q_join1 (by rw [e1]; exact get_new) (by simp; omega)
    have j2 : prim sb .join [.str (tx ""), .ref (List.length (h' ++ [AO.lst (cut (strs1 bs) none (some (at_ : Int)))]))] (h' ++ [AO.lst (cut (strs1 bs) none (some (at_ : Int)))] ++ [AO.lst (cut (strs1 bs) (some ((at_ : Int) + 1)) none)]) = some (.str (bs.drop (at_ + 1)), _) := q_join1 (by rw [e2]; exact get_new) (by simp; omega)
    simp! only [e_law_names_7, q_slHL hb' hsl, j1]
    refine c_part ?_
    have ec := lc_at (part cell 14 + 7 * (0 + (i : Int)))
    simp! only [ec]
    rw [if_pos (by simp; omega)]
    simp! only [q_slLL hb1 hsl, j2]
    rw [if_pos (by simp; omega)]
    simp! only [e_law_names_6]
    have pr2 : h <+: h' ++ [AO.lst (cut (strs1 bs) none (some (at_ : Int)))] ++ [AO.lst (cut (strs1 bs) (some ((at_ : Int) + 1)) none)] := pre_app (pre_app pr)
    have hs2 := get_app (l := [AO.lst (cut (strs1 bs) (some ((at_ : Int) + 1)) none)]) (get_app (l := [AO.lst (cut (strs1 bs) none (some (at_ : Int)))]) hs)
    generalize (h' ++ [AO.lst (cut (strs1 bs) none (some (at_ : Int)))] ++ [AO.lst (cut (strs1 bs) (some ((at_ : Int) + 1)) none)]) = h2 at pr2 hs2
    have np0 : NmP (part cell 14) at_ i (bs.take at_ ++ [lc (part cell 14 + 7 * (0 + (i : Int)))] ++ bs.drop (at_ + 1)) := by
      refine ⟨?_, by simp; omega⟩
      rw [List.append_assoc, List.getElem?_append_right (by simp; omega)]
      simp only [List.length_take]
      rw [show at_ - min at_ bs.length = 0 by omega]
      simp
    have nl0 : (bs.take at_ ++ [lc (part cell 14 + 7 * (0 + (i : Int)))] ++ bs.drop (at_ + 1)).length ≤ 12 := by simp; omega
    generalize bs.take at_ ++ [lc (part cell 14 + 7 * (0 + (i : Int)))] ++ bs.drop (at_ + 1) = nm0 at np0 nl0
    have k4 : ∀ nm : S, NmP (part cell 14) at_ i nm → nm.length ≤ 13 → wpSs sb (wpCall sb P (d + 1)) E b_law_names_4 { nx := NI cell n ba at_ h (i + 1), rt := Q, bk := fun σ' h' => wpSs sb (wpCall sb P (d + 1)) E b_law_names_1 { nx := fun _ h => Q .non h, rt := Q } σ' h', ct := NI cell n ba at_ h (i + 1) }
        [some (.int cell), some (.int n), some lets, some (.ref ba), some (.int at_), some (.ref h.length), some (.int (0 + i)), some (.str nm)] h2 := by
      intro nm hnm hnl
      have k2 : ∀ nm : S, NmP (part cell 14) at_ i nm → wpSs sb (wpCall sb P (d + 1)) E b_law_names_2 { nx := NI cell n ba at_ h (i + 1), rt := Q, bk := fun σ' h' => wpSs sb (wpCall sb P (d + 1)) E b_law_names_1 { nx := fun _ h => Q .non h, rt := Q } σ' h', ct := NI cell n ba at_ h (i + 1) }
          [some (.int cell), some (.int n), some lets, some (.ref ba), some (.int at_), some (.ref h.length), some (.int (0 + i)), some (.str nm)] h2 := by
        intro nm hnm
        simp! only [e_law_names_2, y_lst hs2, p_app hs2 (show (ss.map Z.D.str).length < 16777216 by rw [List.length_map]; omega)]
        refine ⟨ss ++ [nm], _, _, pre_set pr2 (Nat.le_refl _), by rw [get_set hs2]; simp, by simp [hl], fun j s e => ?_, rfl⟩
        by_cases hj : j < ss.length
        · rw [List.getElem?_append_left hj] at e; exact hp j s e
        · have : j = ss.length := by
            have := (List.getElem?_eq_some_iff.mp e).1; simp at this; omega
          subst this
          rw [List.getElem?_append_right (Nat.le_refl _)] at e
          simp at e; subst e
          rw [hl]; exact hnm
      have e6 : inDs (.str nm) [.str (tx "always"), .str (tx "where"), .str (tx "usually"), .str (tx "not"), .str (tx "and"), .str (tx "or")] = some _ := inDs_str (x := nm) (ss := [tx "always", tx "where", tx "usually", tx "not", tx "and", tx "or"])
      simp! only [e_law_names_4, e6]
      generalize ([tx "always", tx "where", tx "usually", tx "not", tx "and", tx "or"] : List S).contains nm = bb
      have ls : (tx "s").length = 1 := by decide
      cases bb with
      | true =>
        simp! only [e_law_names_3]
        rw [if_pos (by rw [ls]; omega)]
        simp! only
        refine k2 _ ⟨?_, by rw [List.length_append, ls]; omega⟩
        rw [List.getElem?_append_left ((List.getElem?_eq_some_iff.mp hnm.1).1)]; exact hnm.1
      | false =>
        simp! only
        exact k2 _ hnm
    refine c_part ?_
    simp! only
    cases part cell 15 % 2 == 1 with
    | true =>
      simp! only [e_law_names_5]
      refine c_part ?_
      simp! only
      have m0 := Int.emod_nonneg (part cell (16 + (0 + (i : Int)))) (show (12 : Int) ≠ 0 by decide)
      obtain ⟨m, hm⟩ := Int.eq_ofNat_of_zero_le m0
      rw [hm, show (at_ : Int) + 1 + (m : Int) = ((at_ + 1 + m : Nat) : Int) by omega, cut_takeL]
      refine k4 _ ⟨?_, by simp; omega⟩ ?_
      · rw [List.getElem?_take_of_lt (by omega)]; exact np0.1
      · simp; omega
    | false =>
      simp! only
      exact k4 _ np0 (by omega)
  · rintro σ h' ⟨ss, x6, x7, pr, hs, hl, hp, rfl⟩
    have nd : ss.Nodup := by
      refine List.pairwise_iff_getElem.mpr fun i j hi hj hij => ?_
      exact nmp_ne (hp i ss[i] (by simp)) (hp j ss[j] (by simp)) hij (by omega)
    simp! only [e_law_names_1, q_srtL hs (show ss.length < 64 by omega), q_tupleL get_new]
    refine q _ (sortS ss) (pre_app pr) ((sortS_perm ss).nodup_iff.mpr nd) (by rw [(sortS_perm ss).length_eq, hl]) fun s hs => ?_
    obtain ⟨j, hj, e⟩ := List.getElem_of_mem ((sortS_perm ss).mem_iff.mp hs)
    have hz := hp j s (by rw [← e]; simp)
    exact ⟨Nat.lt_of_le_of_lt (Nat.zero_le _) (List.getElem?_eq_some_iff.mp hz.1).1, hz.2⟩
theorem c_names {cell z : Int} (h1 : 0 ≤ z) (h2 : z ≤ 6) (q : ∀ h' (N : List S), h <+: h' → N.Nodup → (N.length : Int) = z → (∀ s ∈ N, 1 ≤ s.length ∧ s.length ≤ 20) → Q (.tup (N.map .str)) h') : wpCall sb P (d + 2) 5 [.int cell, .int z] h Q E := by
  obtain ⟨n, rfl⟩ := Int.eq_ofNat_of_zero_le h1
  refine wp_call rfl rfl ?_
  have b0 := Int.emod_nonneg (part cell 0) (show (12 : Int) ≠ 0 by decide)
  have b1 := Int.emod_lt_of_pos (part cell 0) (show (0 : Int) < 12 by decide)
  obtain ⟨L, hL⟩ : ∃ L : Nat, 1 + part cell 0 % 12 = (L : Int) := ⟨(1 + part cell 0 % 12).toNat, by omega⟩
  simp! only [e_law_names_12, e_law_names_11]
  have src : ∀ Q : List D → AH → Prop, Q [.int (L : Int)] h → wpEs sb (wpCall sb P (d + 1)) E (.cons (.prim .add (.cons (.lit (.int 1)) (.cons (.prim .mod (.cons (.call 4 (.cons (.var 0) (.cons (.lit (.int 0)) .nil)) []) (.cons (.lit (.int 12)) .nil))) .nil))) .nil) [some (.int cell), some (.int (n : Int)), some lets, none, none, none, none, none] h Q := by
    intro Q q
    simp! only
    refine c_part ?_
    simp! only
    rw [hL]; exact q
  have r62 : okR (L : Int) = true := okR_iff.mpr (by omega)
  refine wp_comp (xs := (List.range L).map fun k => .int (k : Nat)) (vs := [.int (L : Int)]) (h1 := h) (J := itRng 0 L) (fun _ => true) (fun v => match v with | .int k => .str [lc (part cell (1 + k))] | _ => .non) src (by simp only [iterOf, ioV, ioR, ioE, ioZ, ioB, r62]; simp) (by simp; omega) ?_ ?_ ?_
  · intro i h' _
    unfold itRng
    by_cases hi : i < L
    · rw [if_pos hi, List.getElem?_map, List.getElem?_range hi]; simp
    · rw [if_neg hi, List.getElem?_eq_none (by simp; omega)]
  · intro i v h2 ev p
    have hi : i < L := by have := (List.getElem?_eq_some_iff.mp ev).1; simpa using this
    rw [List.getElem?_map, List.getElem?_range hi] at ev
    cases ev
    refine ⟨_, rfl, ?_⟩
    simp! only
    refine ⟨pre_rfl, fun _ => ?_⟩
    refine c_part ?_
    have ec := lc_at (part cell (1 + (i : Int)))
    simp! only [ec]
    exact pre_rfl
  · intro h' p hb
    have eb : ((((List.range L).map fun k => Z.D.int (k : Nat)).filter fun _ => true).map fun v => match v with | .int k => Z.D.str [lc (part cell (1 + k))] | _ => .non) = strs1 ((List.range L).map fun (k : Nat) => lc (part cell (1 + (k : Int)))) := by
      rw [List.filter_eq_self.mpr (by simp), List.map_map]
      simp only [strs1, List.map_map]
      rfl
    rw [eb] at hb
    have hbl : ((List.range L).map fun (k : Nat) => lc (part cell (1 + (k : Int)))).length = L := by simp
    generalize ((List.range L).map fun (k : Nat) => lc (part cell (1 + (k : Int)))) = bs at hb hbl
    simp! only [e_law_names_10]
    refine c_part ?_
    have sl : (strs1 bs).length = L := by simp [strs1, hbl]
    simp! only [p_lenL hb, sl, p_mod (show (0 : Int) < (L : Int) by omega)]
    have a0 := Int.emod_nonneg (part cell 13) (show (L : Int) ≠ 0 by omega)
    have a1 := Int.emod_lt_of_pos (part cell 13) (show (0 : Int) < (L : Int) by omega)
    obtain ⟨at_, hat⟩ := Int.eq_ofNat_of_zero_le a0
    rw [hat]
    exact c_names_loop (by omega) hb (by omega) (by omega) fun h2 N pr nd hl hs => q h2 N (p.trans pr) nd (by omega) hs
theorem c_has {w k : Nat} (q : Q (.bl (w.testBit k)) h) : wpCall sb P (d + 1) 1 [.int w, .int k] h Q E := by
  refine wp_call rfl rfl ?_
  simp! only [e_has_1]
  rw [if_pos (by omega)]
  simp! only [has_eq]
  exact q
theorem bLen_nat (m : Nat) : bLen (m : Int) = if m = 0 then 0 else m.log2 + 1 := by
  unfold bLen
  by_cases h0 : m = 0
  · subst h0; rfl
  · rw [if_neg (by omega), if_neg h0]; rfl
noncomputable def plc (m : Nat) : List Nat := (List.range (bLen (m : Int))).filter m.testBit
theorem c_places {m : Nat} (hm : m < 2 ^ 64) (q : ∀ h', h <+: h' → h'[h.length]? = some (.lst ((plc m).map fun (w : Nat) => .int w)) → Q (.ref h.length) h') : wpCall sb P (d + 2) 0 [.int m] h Q E := by
  refine wp_call rfl rfl ?_
  simp! only [e_places_1]
  have hb : bLen (m : Int) ≤ 64 := by
    rw [bLen_nat]
    split
    · omega
    · rename_i h0
      have := (Nat.log2_lt h0).mpr hm
      omega
  refine wp_comp (xs := (List.range (bLen (m : Int))).map fun (k : Nat) => .int k) (vs := [.int (bLen (m : Int) : Nat)]) (h1 := h) (J := itRng 0 (bLen (m : Int))) (fun v => match v with | .int k => m.testBit k.toNat | _ => false) (fun v => v) (fun Q q => by simp! only; exact q) ?_ (by simp; omega) ?_ ?_ ?_
  · have : okR ((bLen (m : Int) : Nat) : Int) = true := okR_iff.mpr (by omega)
    simp only [iterOf, ioV, ioR, ioE, ioZ, ioB, this, Int.toNat_natCast]; rfl
  · intro i h2 _
    unfold itRng
    by_cases hi : i < bLen (m : Int)
    · rw [if_pos hi, List.getElem?_map, List.getElem?_range hi]; simp
    · rw [if_neg hi, List.getElem?_eq_none (by simp; omega)]
  · intro k v h3 ev pr
    have hk : k < bLen (m : Int) := by have := (List.getElem?_eq_some_iff.mp ev).1; simpa using this
    rw [List.getElem?_map, List.getElem?_range hk] at ev
    simp only [Option.map_some, Option.some.injEq] at ev
    subst ev
    refine ⟨_, rfl, ?_⟩
    simp! only
    refine c_has ?_
    simp! only
    exact ⟨by rw [Int.toNat_natCast], pre_rfl, fun hb => pre_rfl⟩
  · intro h2 pr e
    refine q h2 pr ?_
    rw [e]
    congr 2
    rw [List.filter_map, List.map_map]
    rfl
theorem intsOf_map : ∀ {is : List Int}, intsOf (is.map .int) = some is
  | [] => rfl
  | x :: r => by simp only [List.map_cons, intsOf, intsOf_map (is := r), Option.map_some]
theorem q_sum {is : List Int} {a : Nat} (ha : h[a]? = some (.lst (is.map .int))) : prim sb .sum1 [.ref a] h = some (.int is.sum, h) := by
  show (match h[a]? with | some (.lst xs) => _ | _ => none) = _
  rw [ha]
  show ((intsOf (is.map .int)).map _) = _
  rw [intsOf_map]; rfl
theorem sum_cast : ∀ l : List Nat, (l.map fun w => ((2 ^ w : Nat) : Int)).sum = (((l.map fun w => 2 ^ w).sum : Nat) : Int)
  | [] => rfl
  | x :: r => by simp only [List.map_cons, List.sum_cons, sum_cast r]; omega
noncomputable def NmB (ss : List S) : Prop := ss.length ≤ 6 ∧ ∀ s ∈ ss, s.length ≤ 30
noncomputable def soL (ss : List S) (w j : Nat) : List S := ((List.range j).filter w.testBit).map fun k => ss.getD k []
noncomputable def sideT (ss : List S) : Option Nat → S
  | none => tx "-"
  | some w => tx "{" ++ joinS (tx " ") (soL ss w ss.length) ++ tx "}"
noncomputable def accT (L : List S) : S := (L.map fun x => tx " " ++ x).flatten
theorem soL_succ (ss : List S) (w j : Nat) : soL ss w (j + 1) = soL ss w j ++ if w.testBit j = true then [ss.getD j []] else [] := by
  unfold soL
  rw [List.range_succ, List.filter_append, List.map_append]
  congr 1
  cases hb : w.testBit j <;> simp only [List.filter_cons, hb, List.filter_nil] <;> simp
theorem accT_drop : ∀ L : List S, (accT L).drop 1 = joinS (tx " ") L
  | [] => rfl
  | [x] => by show (List.drop 1 (tx " " ++ x ++ [])) = x; rw [List.append_nil]; rfl
  | x :: y :: r => by
    have ih := accT_drop (y :: r)
    have e1 : accT (x :: y :: r) = tx " " ++ x ++ accT (y :: r) := rfl
    have e2 : accT (y :: r) = tx " " ++ (accT (y :: r)).drop 1 := rfl
    rw [e1, joinS, ← ih]
    have e3 : List.drop 1 (tx " " ++ x ++ accT (y :: r)) = x ++ accT (y :: r) := rfl
    rw [e3]
    conv => lhs; rw [e2]
    simp
theorem accT_len : ∀ {L : List S}, (∀ s ∈ L, s.length ≤ 30) → (accT L).length ≤ 31 * L.length
  | [], _ => Nat.zero_le _
  | x :: r, hL => by
    have ih := accT_len (L := r) fun s hs => hL s (by simp [hs])
    have hx := hL x (by simp)
    have e1 : accT (x :: r) = tx " " ++ x ++ accT r := rfl
    have e2 : (tx " ").length = 1 := rfl
    rw [e1, List.length_append, List.length_append, e2, List.length_cons]
    omega
theorem soL_len (ss : List S) (w j : Nat) : (soL ss w j).length ≤ j := by
  unfold soL
  rw [List.length_map]
  exact Nat.le_trans (List.length_filter_le _ _) (by simp)
theorem soL_b {ss : List S} (hN : NmB ss) (w j : Nat) : ∀ s ∈ soL ss w j, s.length ≤ 30 := fun s hs => by
  obtain ⟨k, _, rfl⟩ := List.mem_map.mp hs
  rw [List.getD_eq_getElem?_getD]
  cases e : ss[k]? with
  | none => simp
  | some t => exact hN.2 t (List.mem_of_getElem? e)
theorem join_len {L : List S} (hL : ∀ s ∈ L, s.length ≤ 30) : (joinS (tx " ") L).length ≤ 31 * L.length := by
  rw [← accT_drop, List.length_drop]
  have := accT_len hL
  omega
theorem q_join {L : List S} {sep : S} {a : Nat} (ha : h[a]? = some (.lst (L.map .str))) (hl : (L.map fun s => s.length).sum + L.length * sep.length ≤ 16777216) : prim sb .join [.str sep, .ref a] h = some (.str (joinS sep L), h) := by
  show pJoin [.str sep, .ref a] h = _
  simp only [pJoin, ha, strsOf_map, Option.bind_some]
  exact if_pos hl
theorem sum_len : ∀ {L : List S}, (∀ s ∈ L, s.length ≤ 30) → (L.map fun s => s.length).sum ≤ 30 * L.length
  | [], _ => Nat.zero_le _
  | x :: r, hL => by
    have ih := sum_len (L := r) fun s hs => hL s (by simp [hs])
    have hx := hL x (by simp)
    simp only [List.map_cons, List.sum_cons, List.length_cons]
    omega
theorem c_shownw {ss : List S} {w : Nat} (hN : NmB ss) (q : ∀ h', h <+: h' → Q (.str (sideT ss (some w))) h') : wpCall sb P (d + 2) 2 [.tup (ss.map .str), .int (w : Nat)] h Q E := by
  refine wp_call rfl rfl ?_
  have hn := hN.1
  simp! only [e_shown_world_2]
  refine wp_comp (xs := (List.range ss.length).map fun (k : Nat) => .tup [.int k, .str (ss.getD k [])]) (vs := [.tup (ss.map .str)]) (h1 := h) (J := itEnumX (ss.map .str)) (fun v => match v with | .tup [.int k, x] => w.testBit k.toNat | _ => false) (fun v => match v with | .tup [_, x] => x | _ => .non) (fun Q q => by simp! only; exact q) rfl (by simp; omega) ?_ ?_ ?_
  · intro i h2 _
    unfold itEnumX
    by_cases hi : i < ss.length
    · rw [List.getElem?_map, List.getElem?_map, List.getElem?_range hi, Option.map_some, List.getD_eq_getElem?_getD, List.getElem?_eq_getElem hi]; rfl
    · rw [List.getElem?_eq_none (by simp; omega), List.getElem?_eq_none (by simp; omega)]; rfl
  · intro k v h2 ev p
    have hk : k < ss.length := by have := (List.getElem?_eq_some_iff.mp ev).1; simpa using this
    rw [List.getElem?_map, List.getElem?_range hk] at ev
    simp only [Option.map_some, Option.some.injEq] at ev
    subst ev
    refine ⟨_, rfl, ?_⟩
    simp! only
    refine c_has ?_
    simp! only
    exact ⟨by simp, pre_rfl, fun _ => pre_rfl⟩
  · intro h2 p e
    have e' : h2[h.length]? = some (.lst ((soL ss w ss.length).map .str)) := by
      rw [e]
      congr 2
      unfold soL
      rw [List.filter_map, List.map_map, List.map_map]
      rfl
    have l1 := sum_len (soL_b hN w ss.length)
    have l2 := soL_len ss w ss.length
    have l3 := join_len (soL_b hN w ss.length)
    have e1 : (tx "{").length = 1 := rfl
    have e2 : (tx "}").length = 1 := rfl
    have e3 : (tx " ").length = 1 := rfl
    have hle1 : (tx "{").length + (joinS (tx " ") (soL ss w ss.length)).length ≤ 16777216 := by omega
    have hle2 : (tx "{" ++ joinS (tx " ") (soL ss w ss.length)).length + (tx "}").length ≤ 16777216 := by rw [List.length_append]; omega
    simp! only [e_shown_world_1, q_join e' (show ((soL ss w ss.length).map fun s => s.length).sum + (soL ss w ss.length).length * (tx " ").length ≤ 16777216 by rw [e3]; omega), hle1, hle2]
    exact q h2 p
theorem bit_div (m k : Nat) : ((m : Int) / ((2 ^ k : Nat) : Int) % 2 == 1) = m.testBit k := by
  have : ((m : Int) / ((2 ^ k : Nat) : Int) % 2) = ((m / 2 ^ k % 2 : Nat) : Int) := by norm_cast
  rw [this, Nat.testBit_eq_decide_div_mod_eq, Bool.eq_iff_iff, beq_iff_eq, decide_eq_true_iff]
  omega
theorem p_divS {m : Int} {k : Nat} (hk : k ≤ 64) : prim sb .fdiv [.int m, .int ((2 ^ k : Nat) : Int)] h = some (.int (m / ((2 ^ k : Nat) : Int)), h) := by
  have h1 : 2 ^ k ≤ 2 ^ 64 := Nat.pow_le_pow_right (by decide) hk
  have h2 : 0 < 2 ^ k := Nat.pow_pos (by decide)
  refine p_fdivB ⟨by omega, ?_⟩
  generalize 2 ^ k = z at h1 h2
  have : (2 : Nat) ^ 64 = 18446744073709551616 := rfl
  omega
theorem joinS_snoc {sep : S} : ∀ {L : List S} {x : S}, L ≠ [] → joinS sep (L ++ [x]) = joinS sep L ++ sep ++ x
  | [], x, h => absurd rfl h
  | [y], x, _ => rfl
  | y :: z :: r, x, _ => by
    have ih := joinS_snoc (sep := sep) (L := z :: r) (x := x) (by simp)
    show y ++ sep ++ joinS sep ((z :: r) ++ [x]) = _
    rw [ih]
    show _ = y ++ sep ++ joinS sep (z :: r) ++ sep ++ x
    simp [List.append_assoc]
theorem joinS_ne {sep : S} : ∀ {L : List S}, L ≠ [] → (∀ s ∈ L, s ≠ []) → joinS sep L ≠ []
  | [], h, _ => absurd rfl h
  | [y], _, hl => hl y (by simp)
  | y :: z :: r, _, hl => fun e => by
    have e2 : y ++ sep ++ joinS sep (z :: r) = [] := e
    simp at e2
    exact hl y (by simp) e2.1
theorem soL_ne {ss : List S} (hs : ∀ s ∈ ss, s ≠ []) {w j : Nat} (hj : j ≤ ss.length) : ∀ s ∈ soL ss w j, s ≠ [] := fun s hz => by
  obtain ⟨k, hk, rfl⟩ := List.mem_map.mp hz
  have hk2 : k < ss.length := by have := List.mem_range.mp (List.mem_filter.mp hk).1; omega
  rw [List.getD_eq_getElem?_getD, List.getElem?_eq_getElem hk2]
  exact hs _ (List.getElem_mem hk2)
theorem sh_turn {ss : List S} {w k : Nat} {B C : Lo → AH → Prop} {R : PV} {x4 : Option D} (hN : NmB ss) (hs : ∀ s ∈ ss, s ≠ []) (hk : k < ss.length)
    (q : B [some (.tup (ss.map .str)), some (.int w), some (.str (joinS (tx " ") (soL ss w (k + 1)))), some (.int k), x4] h) :
    wpSs sb (wpCall sb P d) E b_law_shown_6 { nx := B, rt := R, bk := C, ct := B } [some (.tup (ss.map .str)), some (.int w), some (.str (joinS (tx " ") (soL ss w k))), some (.int k), x4] h := by
  have hn := hN.1
  have hd : ∀ h', prim sb .fdiv [.int (w : Int), .int ((2 ^ k : Nat) : Int)] h' = some (.int ((w : Int) / ((2 ^ k : Nat) : Int)), h') := fun h' => p_divS (h := h') (by omega)
  have ea : atI (ss.map D.str) (k : Int) = some (.str (ss.getD k [])) := by rw [atI_lit, List.getElem?_map, List.getElem?_eq_getElem hk, List.getD_eq_getElem?_getD, List.getElem?_eq_getElem hk]; rfl
  rw [soL_succ] at q
  simp! only [e_law_shown_6, q_shl1 (show k ≤ 1000 by omega), hd, bit_div]
  cases hb : w.testBit k with
  | false =>
    rw [hb] at q
    simp! only [e_law_shown_5, q_shl1 (show k ≤ 1000 by omega), hd, bit_div, hb]
    simpa using q
  | true =>
    rw [hb, if_pos rfl] at q
    have te : tx "" = [] := rfl
    cases hL : soL ss w k with
    | nil =>
      rw [hL] at q
      have e1 : (joinS (tx " ") ([] : List S) == ([] : S)) = true := rfl
      simp! only [eqH_str, te, e1, e_law_shown_5, q_shl1 (show k ≤ 1000 by omega), hd, bit_div, hb, e_law_shown_4, ea]
      exact q
    | cons y r =>
      have hL' : soL ss w k ≠ [] := by rw [hL]; simp
      rw [joinS_snoc hL', hL] at q
      have e1 : (joinS (tx " ") (y :: r) == ([] : S)) = false := by
        rw [beq_eq_false_iff_ne]; rw [← hL]; exact joinS_ne hL' (soL_ne hs (by omega))
      have l1 := join_len (soL_b hN w k)
      rw [hL] at l1
      have l2 : (y :: r).length ≤ k := hL ▸ soL_len ss w k
      have l3 : (ss.getD k []).length ≤ 30 := by rw [List.getD_eq_getElem?_getD, List.getElem?_eq_getElem hk]; exact hN.2 _ (List.getElem_mem hk)
      have l4 : (tx " ").length = 1 := rfl
      have c1 : (joinS (tx " ") (y :: r)).length + (tx " ").length ≤ 16777216 := by rw [l4]; omega
      have c2 : (joinS (tx " ") (y :: r) ++ tx " ").length + (ss.getD k []).length ≤ 16777216 := by rw [List.length_append, l4]; omega
      simp! only [eqH_str, te, e1, e_law_shown_3, c1, ea, c2]
      exact q
theorem c_lshown {ss : List S} {w : Nat} (hN : NmB ss) (hs : ∀ s ∈ ss, s ≠ []) (q : ∀ h', h <+: h' → Q (.bl true) h') : wpCall sb P (d + 3) 8 [.tup (ss.map .str), .int (w : Nat)] h Q E := by
  refine wp_call rfl rfl ?_
  have hn := hN.1
  simp! only [e_law_shown_8, e_law_shown_7]
  refine wp_rng (fun j σ h' => h' = h ∧ ∃ x3, σ = [some (.tup (ss.map .str)), some (.int w), some (.str (joinS (tx " ") (soL ss w j))), x3, none]) (lo := 0) (n := ss.length) (vs := [.int (ss.length : Nat)]) (h1 := h) (fun Q q => by simp! only [List.length_map]; exact q) (it_rng (by omega)) ⟨rfl, none, rfl⟩ ?_ ?_
  · rintro k σ h' hk ⟨rfl, x3, rfl⟩
    refine ⟨_, rfl, ?_⟩
    rw [Int.zero_add]
    exact sh_turn hN hs hk ⟨rfl, _, rfl⟩
  · rintro σ h' ⟨rfl, x3, rfl⟩
    simp! only [e_law_shown_2]
    refine c_shownw (d := d) hN fun h2 p2 => ?_
    have l1 := join_len (soL_b hN w ss.length)
    have l2 := soL_len ss w ss.length
    have e1 : (tx "{").length = 1 := rfl
    have e2 : (tx "}").length = 1 := rfl
    have c1 : (tx "{").length + (joinS (tx " ") (soL ss w ss.length)).length ≤ 16777216 := by omega
    have c2 : (tx "{" ++ joinS (tx " ") (soL ss w ss.length)).length + (tx "}").length ≤ 16777216 := by rw [List.length_append]; omega
    have ei : ∀ z, isiB h2 sb .str (.str z) = some true := fun _ => rfl
    unfold sideT
    simp! only [e_law_shown_1, q_isi, ei, c1, c2, eqH_str, beq_self_eq_true]
    exact q _ p2
theorem eqZ_ints : ∀ L : List Nat, eqZ (eqN 149) (L.map fun (w : Nat) => D.int w) (L.map fun (w : Nat) => D.int w) = some true
  | [] => rfl
  | x :: L => by
    rw [List.map_cons]
    unfold eqZ
    rw [show eqN 149 (.int (x : Int)) (.int (x : Int)) = some true by show some ((x : Int) == (x : Int)) = _; rw [beq_self_eq_true], eqZ_ints L]; rfl
theorem eqLs_ints (L : List Nat) : eqLs (L.map fun (w : Nat) => D.int w) (L.map fun (w : Nat) => D.int w) = some true := by
  unfold eqLs
  rw [if_pos rfl]; exact eqZ_ints L
theorem c_nums {L : List Nat} {r : Nat} (er : h[r]? = some (.lst (L.map fun (w : Nat) => .int w))) (hl : L.length ≤ 1000) (q : ∀ h', h <+: h' → Q (.bl true) h') : wpCall sb P (d + 1) 6 [.ref r] h Q E := by
  refine wp_call rfl rfl ?_
  have e1 : isiB h sb .list (.ref r) = some true := by simp only [isiB, er]
  simp! only [e_law_numbers_3, q_isi, e1, e_law_numbers_1]
  refine w_clst (W := L) (h1 := h) (a := r) (fun _ => false) (fun k => .int k) (fun Q q => by simp! only; exact q) er hl ?_ ?_
  · intro k h2 hk p2
    have e2 : isiB h2 sb .int (.int (k : Int)) = some true := rfl
    have e3 : isiB h2 sb .bool (.int (k : Int)) = some false := rfl
    simp! only [q_isi, e2, e3]
    exact ⟨pre_rfl, fun z => by cases z⟩
  · intro h2 p2 e2
    have e3 : h2[h.length]? = some (.lst []) := by rw [e2, List.filter_eq_nil_iff.mpr (fun x _ => by simp)]; rfl
    have e4 : eqH (h2 ++ [AO.lst []]) (.ref h.length) (.ref h2.length) = some true := by rw [eqH_lst (get_app e3) get_new]; rfl
    simp! only [e4]
    exact q _ (pre_app p2)
theorem plc_64 {m : Nat} (hm : m < 2 ^ 64) : plc m = (List.range 64).filter m.testBit := by
  unfold plc
  have hb : bLen (m : Int) ≤ 64 := by
    rw [bLen_nat]
    split
    · omega
    · rename_i h0
      have := (Nat.log2_lt h0).mpr hm
      omega
  have hz : ∀ i, bLen (m : Int) ≤ i → m.testBit i = false := fun i hi => by
    refine Nat.testBit_lt_two_pow ?_
    rw [bLen_nat] at hi
    split at hi
    · rename_i h0; rw [h0]; exact Nat.pow_pos (by decide)
    · exact Nat.lt_of_lt_of_le Nat.lt_log2_self (Nat.pow_le_pow_right (by decide) hi)
  generalize bLen (m : Int) = b at hb hz
  obtain ⟨c, hc⟩ : ∃ c, 64 = b + c := ⟨64 - b, by omega⟩
  rw [hc, List.range_add, List.filter_append]
  have : (List.map (fun x => b + x) (List.range c)).filter m.testBit = [] := by
    rw [List.filter_eq_nil_iff]
    intro x hx
    obtain ⟨y, _, rfl⟩ := List.mem_map.mp hx
    rw [hz _ (by omega)]; decide
  rw [this, List.append_nil]
theorem c_placed {m : Nat} (hm : m < 2 ^ 64) (q : ∀ h', h <+: h' → Q (.bl true) h') : wpCall sb P (d + 3) 7 [.int m] h Q E := by
  refine wp_call rfl rfl ?_
  simp! only [e_law_placed_6]
  refine w_crng (n := 64) (h1 := h) m.testBit (fun k => .int k) (fun Q q => by simp! only; exact q) (by omega) ?_ ?_
  · intro k h2 hk p2
    simp! only [q_shl1 (show k ≤ 1000 by omega), p_divS (h := h2) (m := (m : Int)) (show k ≤ 64 by omega), bit_div]
    exact ⟨pre_rfl, fun _ => pre_rfl⟩
  · intro h1 p1 e1
    rw [← plc_64 hm] at e1
    simp! only [e_law_placed_5]
    refine c_places (d := d) hm fun h2 p2 e2 => ?_
    have hl : (plc m).length ≤ 64 := by rw [plc_64 hm]; exact Nat.le_trans (List.length_filter_le _ _) (by simp)
    simp! only [e_law_placed_4]
    refine c_nums (d := d + 1) e2 (by omega) fun h3 p3 => ?_
    have f1 := pre_get (p2.trans p3) e1
    have f2 := pre_get p3 e2
    have eq1 : eqH h3 (.ref h1.length) (.ref h.length) = some true := by rw [eqH_lst f2 f1]; exact eqLs_ints _
    have lt := get_lt e1
    have f3 := get_set_ne (o' := AO.lst (((plc m).map fun (w : Nat) => D.int w) ++ [.int 64])) f1 (show h1.length ≠ h.length by omega)
    simp! only [eq1, e_law_placed_2, y_lst f2, p_app f2 (show ((plc m).map fun (w : Nat) => D.int w).length < 16777216 by simp; omega), e_law_placed_1]
    have p4 : h1 <+: h3.set h1.length (AO.lst (((plc m).map fun (w : Nat) => D.int w) ++ [.int 64])) := pre_set (p2.trans p3) (Nat.le_refl _)
    generalize h3.set h1.length (AO.lst (((plc m).map fun (w : Nat) => D.int w) ++ [.int 64])) = h4 at f3 p4
    refine c_places (d := d) hm fun h5 p5 e5 => ?_
    have eq2 : eqH h5 (.ref h4.length) (.ref h.length) = some true := by rw [eqH_lst e5 (pre_get p5 f3)]; exact eqLs_ints _
    simp! only [eq2]
    exact q _ (p1.trans (p4.trans p5))
theorem pow_sum : ∀ (n : Nat) (W : List Nat), W.Nodup → (∀ w ∈ W, w < n) → (W.map fun w => 2 ^ w).sum < 2 ^ n
  | 0, W, _, h => by
    cases W with
    | nil => decide
    | cons w r => exact absurd (h w (by simp)) (Nat.not_lt_zero _)
  | n + 1, W, hn, h => by
    have hp := Nat.pow_pos (n := n) (show 0 < 2 by decide)
    rw [Nat.pow_succ]
    by_cases hm : n ∈ W
    · have p := List.perm_cons_erase hm
      have e := (p.map fun w => 2 ^ w).sum_nat
      rw [e, List.map_cons, List.sum_cons]
      have nd := (p.nodup_iff.mp hn)
      have ih := pow_sum n (W.erase n) (List.nodup_cons.mp nd).2 fun w hw => by
        have h1 := h w (List.mem_of_mem_erase hw)
        have h2 : w ≠ n := fun z => (List.nodup_cons.mp nd).1 (z ▸ hw)
        omega
      omega
    · have ih := pow_sum n W hn fun w hw => by
        have h1 := h w hw
        have h2 : w ≠ n := fun z => hm (z ▸ hw)
        omega
      omega
theorem w_sset {e : Ex} {σ : Lo} (w : wpE sb (wpCall sb P d) E e σ h fun x h1 => ∃ (n : Nat) (is : List Int), x = .ref n ∧ h1[n]? = some (.lst (is.map .int)) ∧ is.length < 64 ∧ ∀ js : List Int, js.Nodup → (∀ j ∈ js, j ∈ is) → Q (.ref h1.length) (h1 ++ [.lst (js.map .int)])) : wpE sb (wpCall sb P d) E (.sset e) σ h Q := by
  simp only [wpE]
  refine wp_imp _ w fun x h1 ⟨n, is, e1, e2, e3, e4⟩ => ?_
  subst e1
  simp only [e2, intsOf_map]
  exact ⟨e3, e4⟩
theorem nd_len : ∀ (n : Nat) (W : List Nat), W.Nodup → (∀ w ∈ W, w < n) → W.length ≤ n
  | 0, W, _, h => by
    cases W with
    | nil => exact Nat.le_refl _
    | cons w r => exact absurd (h w (by simp)) (Nat.not_lt_zero _)
  | n + 1, W, hn, h => by
    by_cases hm : n ∈ W
    · have p := List.perm_cons_erase hm
      have nd := (p.nodup_iff.mp hn)
      have ih := nd_len n (W.erase n) (List.nodup_cons.mp nd).2 fun w hw => by
        have h1 := h w (List.mem_of_mem_erase hw)
        have h2 : w ≠ n := fun z => (List.nodup_cons.mp nd).1 (z ▸ hw)
        omega
      rw [p.length_eq, List.length_cons]; omega
    · have ih := nd_len n W hn fun w hw => by
        have h1 := h w hw
        have h2 : w ≠ n := fun z => hm (z ▸ hw)
        omega
      omega
theorem l_names {N : List S} {first : Int} {nx : Lo → AH → Prop} {v0 v2 v3 v4 : Option D} (hN : NmB N) (hs : ∀ s ∈ N, s ≠ []) (q : ∀ h', Q (.bl true) h') :
    wpSs sb (wpCall sb P (d + 4)) E b_law_4 { nx := nx, rt := Q } [v0, some (.int first), v2, v3, v4, some (.tup (N.map .str)), none] h := by
  have hn := hN.1
  have h64 : 2 ^ N.length ≤ 64 := Nat.le_trans (Nat.pow_le_pow_right (by decide) hn) (by decide)
  simp! only [e_law_4]
  refine wp_rng (fun j σ h' => ∃ x6, σ = [v0, some (.int first), v2, v3, v4, some (.tup (N.map .str)), x6]) (lo := 0) (n := 2 ^ N.length) (vs := [.int ((2 ^ N.length : Nat) : Int)]) (h1 := h) (fun Q q => by simp! only [List.length_map, q_shl1 (show N.length ≤ 1000 by omega)]; exact q) (it_rng (by omega)) ⟨none, rfl⟩ ?_ ?_
  · rintro k σ h' hk ⟨x6, rfl⟩
    refine ⟨_, rfl, ?_⟩
    rw [Int.zero_add]
    simp! only [e_law_3]
    refine c_lshown (d := d + 1) hN hs fun h2 p2 => ?_
    simp! only
    exact ⟨_, rfl⟩
  · rintro σ h' ⟨x6, rfl⟩
    simp! only [e_law_1]
    exact q _
theorem l_drawn {first z : Int} {nx : Lo → AH → Prop} {v0 v2 v4 : Option D} (q : ∀ h', Q (.bl true) h') :
    wpSs sb (wpCall sb P (d + 4)) E b_law_7 { nx := nx, rt := Q } [v0, some (.int first), v2, some (.int z), v4, none, none] h := by
  have b0 := Int.emod_nonneg z (show (18446744073709551616 : Int) ≠ 0 by decide)
  have b1 := Int.emod_lt_of_pos z (show (0 : Int) < 18446744073709551616 by decide)
  have c0 := Int.emod_nonneg z (show (65 : Int) ≠ 0 by decide)
  obtain ⟨m, hm⟩ := Int.eq_ofNat_of_zero_le b0
  obtain ⟨k, hk⟩ := Int.eq_ofNat_of_zero_le c0
  have hm64 : m < 2 ^ 64 := by have : (2 : Nat) ^ 64 = 18446744073709551616 := rfl; omega
  have e1 : ∀ h, prim sb .shl [.int 1, .int 64] h = some (.int 18446744073709551616, h) := fun _ => rfl
  have e2 : ∀ h, prim sb .mod [.int z, .int 18446744073709551616] h = some (.int (m : Int), h) := fun h => by rw [← hm]; exact p_mod (by decide)
  have e3 : ∀ h, prim sb .mod [.int z, .int 65] h = some (.int (k : Int), h) := fun h => by rw [← hk]; exact p_mod (by decide)
  have e4 : ∀ h, prim sb .shr [.int (m : Int), .int (k : Int)] h = some (.int ((m / 2 ^ k : Nat) : Int), h) := fun h => by
    rw [q_shr, if_pos (by omega)]
    simp
  simp! only [e_law_7, e1, e2]
  refine c_placed (d := d + 1) hm64 fun h1 p1 => ?_
  simp! only [e1, e2]
  have e5 : (if 0 ≤ z % 65 then some (D.int ((m : Int) / 2 ^ (z % 65).toNat), h1) else none) = some (D.int ((m / 2 ^ k : Nat) : Int), h1) := by rw [hk, if_pos (by omega)]; simp
  simp! only [e5]
  refine c_placed (d := d + 1) (Nat.lt_of_le_of_lt (Nat.div_le_self _ _) hm64) fun h2 p2 => ?_
  have f0 := Int.emod_nonneg (part first 40) (show (7 : Int) ≠ 0 by decide)
  have f1 := Int.emod_lt_of_pos (part first 40) (show (0 : Int) < 7 by decide)
  simp! only [e_law_5]
  refine c_part (d := d + 3) ?_
  simp! only
  refine c_names (d := d + 2) f0 (by omega) fun h3 N p3 nd hl hs => ?_
  refine l_names (d := d) ⟨by omega, fun s z => by have := (hs s z).2; omega⟩ (fun s z e => ?_) q
  have := (hs s z).1
  rw [e] at this
  simp at this
theorem law_wp (ns : List Int) (hl : ns.length ≤ 63) : wpCall sb P 50 9 [.rol (ns.map .int)] [] (fun d _ => d = .bl true) fun _ _ => False := by
  refine wp_call rfl rfl ?_
  simp! only [e_law_14]
  refine c_cell (by decide) fun first => ?_
  have hcl : (cut (ns.map Z.D.int) none (some 120)).length ≤ 63 := Nat.le_trans cut_len (by simpa using hl)
  have hsl : ∀ h, prim sb .slH [.rol (ns.map .int), .int 120] h = some (.ref h.length, h ++ [.lst (cut (ns.map Z.D.int) none (some 120))]) := fun h => by
    show newL _ h = _
    exact if_pos (by unfold lim; omega)
  have hci : ∀ v ∈ cut (ns.map Z.D.int) none (some 120), ∃ c : Int, v = .int c := fun v hv => by
    obtain ⟨c, _, rfl⟩ := List.mem_map.mp (cut_mem hv); exact ⟨c, rfl⟩
  generalize cut (ns.map Z.D.int) none (some 120) = cs at hcl hsl hci
  simp! only [e_law_13]
  refine w_sset ?_
  refine wp_comp (xs := cs) (vs := [.ref 0]) (h1 := [.lst cs]) (J := itList 0) (fun _ => true) (fun v => match v with | .int c => .int (c % 64) | _ => .non) (fun Q q => by simp! only [hsl]; exact q) (it_lst rfl) (by omega) (fun i h' pp => it_lst_at (h1 := [.lst cs]) (a := 0) rfl pp i) ?_ ?_
  · intro i v h2 ev p2
    obtain ⟨c, rfl⟩ := hci v (List.mem_of_getElem? ev)
    refine ⟨_, rfl, ?_⟩
    simp! only
    refine ⟨pre_rfl, fun _ => ?_⟩
    exact pre_rfl
  · intro h1 p1 e1
    rw [List.filter_eq_self.mpr (fun _ _ => rfl)] at e1
    refine ⟨_, (cs.map fun v => match v with | .int c => c % 64 | _ => 0), rfl, ?_, by simp; omega, fun js hj hm => ?_⟩
    · rw [e1, List.map_map]
      congr 2
      refine List.map_congr_left fun v hv => ?_
      obtain ⟨c, rfl⟩ := hci v hv
      rfl
    · have hb : ∀ j ∈ js, 0 ≤ j ∧ j < 64 := fun j z => by
        obtain ⟨v, hv, rfl⟩ := List.mem_map.mp (hm j z)
        obtain ⟨c, rfl⟩ := hci v hv
        exact ⟨Int.emod_nonneg c (by decide), Int.emod_lt_of_pos c (by decide)⟩
      have ej : js.map D.int = (js.map Int.toNat).map fun (w : Nat) => .int w := by
        rw [List.map_map]
        refine List.map_congr_left fun j z => ?_
        have := (hb j z).1
        simp only [Function.comp_apply]
        rw [Int.toNat_of_nonneg this]
      have hW : ∀ w ∈ js.map Int.toNat, w < 64 := fun w z => by
        obtain ⟨j, hj, rfl⟩ := List.mem_map.mp z
        have := hb j hj; omega
      have nW : (js.map Int.toNat).Nodup := by
        refine List.pairwise_map.mpr (List.Pairwise.imp_of_mem (fun {a b} ha hb' hne e => hne ?_) hj)
        have h1 := (hb a ha).1; have h2 := (hb b hb').1; omega
      have lj : (js.map Int.toNat).length ≤ 64 := nd_len 64 _ nW hW
      have hlt := pow_sum 64 _ nW hW
      generalize js.map Int.toNat = W at ej hW nW hlt lj
      have eW : (h1 ++ [AO.lst (js.map D.int)])[h1.length]? = some (.lst (W.map fun (w : Nat) => .int w)) := by rw [ej]; exact get_new
      generalize h1 ++ [AO.lst (js.map D.int)] = h2 at eW
      simp! only [e_law_12]
      refine w_clst (W := W) (h1 := h2) (a := h1.length) (fun _ => true) (fun k => .int ((2 ^ k : Nat) : Int)) (fun Q q => by simp! only; exact q) eW (by omega) ?_ ?_
      · intro k h3 hk p3
        have := hW k hk
        simp! only
        refine ⟨pre_rfl, fun _ => ?_⟩
        simp! only [q_shl1 (show k ≤ 1000 by omega)]
        exact pre_rfl
      · intro h3 p3 e3
        rw [List.filter_eq_self.mpr (fun _ _ => rfl)] at e3
        have e4 : h3[h2.length]? = some (.lst ((W.map fun w => ((2 ^ w : Nat) : Int)).map .int)) := by rw [e3, List.map_map]; rfl
        simp! only [q_sum e4, sum_cast]
        generalize (W.map fun w => 2 ^ w).sum = m at hlt
        refine c_placed (d := 46) hlt fun h5 p5 => ?_
        simp! only [e_law_10, e_law_9]
        refine wp_rng (fun j σ h' => ∃ z x4, σ = [some (.rol (ns.map .int)), some (.int first), some (.ref h1.length), some (.int z), x4, none, none]) (lo := 0) (n := 3) (vs := [.int 3]) (h1 := h5) (fun Q q => by simp! only; exact q) (it_rng (n := 3) (by omega)) ⟨0, none, rfl⟩ ?_ ?_
        · rintro k σ h' hk ⟨z, x4, rfl⟩
          refine ⟨_, rfl, ?_⟩
          simp! only [e_law_8]
          refine c_part (d := 48) ?_
          simp! only
          exact ⟨_, _, rfl⟩
        · rintro σ h' ⟨z, x4, rfl⟩
          exact l_drawn (d := 45) fun _ => rfl
end
end K10
set_option maxRecDepth 100000
set_option maxHeartbeats 4000000
namespace K10
open PySem PySem.Spec PyProof.Rows L2 ZS
noncomputable def top (i : Nat) : Stmt := PySem.Challenge.pw_wontbook_k10_places_and_shown.main.body.getD i (.Pass ⟨0, 0, 0, 0⟩)
noncomputable def inner (i j : Nat) : Stmt := match top i with | .ClassDef _ _ _ b _ _ _ _ _ _ _ => b.getD j (.Pass ⟨0, 0, 0, 0⟩) | _ => .Pass ⟨0, 0, 0, 0⟩
structure Txt (K : PySem.W.Frag) (mg : Str → Option Value) (f0 f1 f2 f3 f4 f5 f6 f7 f8 f9 : Addr) (e0 e1 e2 e3 e4 e5 e6 e7 e8 e9 : FuncData) : Prop where
  u0 : Fun K "places" "places" (top 1) f0 e0
  g0 : Binds K e0 ["mask"] []
  m0 : mg "places" = some (.ref f0)
  k0 : PySem.W.keepIn K (.ref f0) = true
  u1 : Fun K "has" "has" (top 2) f1 e1
  g1 : Binds K e1 ["mask", "number"] []
  m1 : mg "has" = some (.ref f1)
  k1 : PySem.W.keepIn K (.ref f1) = true
  u2 : Fun K "shown_world" "shown_world" (top 3) f2 e2
  g2 : Binds K e2 ["names", "world"] []
  m2 : mg "shown_world" = some (.ref f2)
  k2 : PySem.W.keepIn K (.ref f2) = true
  u3 : Fun K "_law_cell_at" "_law_cell_at" (top 5) f3 e3
  g3 : Binds K e3 ["script", "k"] []
  m3 : mg "_law_cell_at" = some (.ref f3)
  k3 : PySem.W.keepIn K (.ref f3) = true
  u4 : Fun K "_law_part" "_law_part" (top 6) f4 e4
  g4 : Binds K e4 ["cell", "k"] []
  m4 : mg "_law_part" = some (.ref f4)
  k4 : PySem.W.keepIn K (.ref f4) = true
  u5 : Fun K "_law_names" "_law_names" (top 7) f5 e5
  g5 : Binds K e5 ["cell", "many"] []
  m5 : mg "_law_names" = some (.ref f5)
  k5 : PySem.W.keepIn K (.ref f5) = true
  u6 : Fun K "_law_numbers" "_law_numbers" (top 8) f6 e6
  g6 : Binds K e6 ["found"] []
  m6 : mg "_law_numbers" = some (.ref f6)
  k6 : PySem.W.keepIn K (.ref f6) = true
  u7 : Fun K "_law_placed" "_law_placed" (top 9) f7 e7
  g7 : Binds K e7 ["mask"] []
  m7 : mg "_law_placed" = some (.ref f7)
  k7 : PySem.W.keepIn K (.ref f7) = true
  u8 : Fun K "_law_shown" "_law_shown" (top 10) f8 e8
  g8 : Binds K e8 ["names", "world"] []
  m8 : mg "_law_shown" = some (.ref f8)
  k8 : PySem.W.keepIn K (.ref f8) = true
  u9 : Fun K "law" "law" (top 11) f9 e9
  g9 : Binds K e9 ["script"] []
  m9 : mg "law" = some (.ref f9)
  k9 : PySem.W.keepIn K (.ref f9) = true
  b_bool : mg "bool" = none
  b_enumerate : mg "enumerate" = none
  b_int : mg "int" = none
  b_isinstance : mg "isinstance" = none
  b_len : mg "len" = none
  b_list : mg "list" = none
  b_range : mg "range" = none
  b_set : mg "set" = none
  b_sorted : mg "sorted" = none
  b_str : mg "str" = none
  b_sum : mg "sum" = none
  b_tuple : mg "tuple" = none
structure Fns [R0] (Pr : Program) (w : World) (K : PySem.W.Frag) (mg : Str → Option Value) (base : Heap) (k : Nat) (f0 f1 f2 f3 f4 f5 f6 f7 f8 f9 : Addr) (e0 e1 e2 e3 e4 e5 e6 e7 e8 e9 : FuncData) (Γ : Z.Gam) : Prop where
  f0 : FnOk Pr w K mg base CX0 k f0 e0 ["mask"] (spUp K Γ 0)
  f1 : FnOk Pr w K mg base CX0 k f1 e1 ["mask", "number"] (spUp K Γ 1)
  f2 : FnOk Pr w K mg base CX0 k f2 e2 ["names", "world"] (spUp K Γ 2)
  f3 : FnOk Pr w K mg base CX0 k f3 e3 ["script", "k"] (spUp K Γ 3)
  f4 : FnOk Pr w K mg base CX0 k f4 e4 ["cell", "k"] (spUp K Γ 4)
  f5 : FnOk Pr w K mg base CX0 k f5 e5 ["cell", "many"] (spUp K Γ 5)
  f6 : FnOk Pr w K mg base CX0 k f6 e6 ["found"] (spUp K Γ 6)
  f7 : FnOk Pr w K mg base CX0 k f7 e7 ["mask"] (spUp K Γ 7)
  f8 : FnOk Pr w K mg base CX0 k f8 e8 ["names", "world"] (spUp K Γ 8)
  f9 : FnOk Pr w K mg base CX0 k f9 e9 ["script"] (spUp K Γ 9)
seal L2.PE L2.PT L2.PA L2.PS L2.PSs L2.PW L2.PI L2.OpR L2.UnR L2.CallR L2.MtR L2.IxR ZS.PTs L2.Binds
section
variable {Pr : Program} {w : World} {K : PySem.W.Frag} {mg : Str → Option Value} {base : Heap} {k : Nat} {f0 f1 f2 f3 f4 f5 f6 f7 f8 f9 : Addr} {e0 e1 e2 e3 e4 e5 e6 e7 e8 e9 : FuncData}
theorem sc_0 : FnScope ["mask"] ["mask"] (defScope (top 1)) := ⟨rfl, rfl, rfl, by decide +kernel, rfl, by decide +kernel, by decide +kernel⟩
theorem sc_1 : FnScope ["mask", "number"] ["mask", "number"] (defScope (top 2)) := ⟨rfl, rfl, rfl, by decide +kernel, rfl, by decide +kernel, by decide +kernel⟩
theorem sc_2 : FnScope ["names", "world", "so"] ["names", "world"] (defScope (top 3)) := ⟨rfl, rfl, rfl, by decide +kernel, rfl, by decide +kernel, by decide +kernel⟩
theorem sc_3 : FnScope ["script", "k"] ["script", "k"] (defScope (top 5)) := ⟨rfl, rfl, rfl, by decide +kernel, rfl, by decide +kernel, by decide +kernel⟩
theorem sc_4 : FnScope ["cell", "k", "number"] ["cell", "k"] (defScope (top 6)) := ⟨rfl, rfl, rfl, by decide +kernel, rfl, by decide +kernel, by decide +kernel⟩
theorem sc_5 : FnScope ["cell", "many", "letters", "base", "at", "some", "k", "name"] ["cell", "many"] (defScope (top 7)) := ⟨rfl, rfl, rfl, by decide +kernel, rfl, by decide +kernel, by decide +kernel⟩
theorem sc_6 : FnScope ["found"] ["found"] (defScope (top 8)) := ⟨rfl, rfl, rfl, by decide +kernel, rfl, by decide +kernel, by decide +kernel⟩
theorem sc_7 : FnScope ["mask", "due", "found"] ["mask"] (defScope (top 9)) := ⟨rfl, rfl, rfl, by decide +kernel, rfl, by decide +kernel, by decide +kernel⟩
theorem sc_8 : FnScope ["names", "world", "words", "k", "found"] ["names", "world"] (defScope (top 10)) := ⟨rfl, rfl, rfl, by decide +kernel, rfl, by decide +kernel, by decide +kernel⟩
theorem sc_9 : FnScope ["script", "first", "row", "drawn", "k", "names", "world"] ["script"] (defScope (top 11)) := ⟨rfl, rfl, rfl, by decide +kernel, rfl, by decide +kernel, by decide +kernel⟩
section
variable [r0 : R0] (T : Txt K mg f0 f1 f2 f3 f4 f5 f6 f7 f8 f9 e0 e1 e2 e3 e4 e5 e6 e7 e8 e9) (FA : ∀ r : R0, @Fns r Pr w K mg base k f0 f1 f2 f3 f4 f5 f6 f7 f8 f9 e0 e1 e2 e3 e4 e5 e6 e7 e8 e9 (Z.wpCall sb P k))
include T FA
theorem d_0 : FnOk Pr w K mg base CX0 (k + 1) f0 e0 ["mask"] (spUp K (Z.wpCall sb P (k + 1)) 0) :=
  have F := FA r0
  def_ok T.u0 sc_0 rfl rfl rfl fun cdv A outer s H E E' hr =>
    (lss_cons (ls_ret (zcomp1 ["mask"] ["mask"] (defScope (top 1)) rfl (li_rng1 rfl T.b_range (zargs (zmth0 (m := .int) PySem.F.plainAttrs_int PySem.F.slot_int_bit_length PySem.F.type_int_bit_length m_bitlen (zv 0)) la_nil) rfl) (fun _ _ _ _ => lc_one (ztru (zcall hr F.f1 T.m1 T.k1 T.g1 (zargs (zv 0) (zargs (zv 1) la_nil))))) (fun _ _ _ _ => (zv 1))))
    lss_nil)
theorem d_1 : FnOk Pr w K mg base CX0 (k + 1) f1 e1 ["mask", "number"] (spUp K (Z.wpCall sb P (k + 1)) 1) :=
  have F := FA r0
  def_ok T.u1 sc_1 rfl rfl rfl fun cdv A outer s H E E' hr =>
    (lss_cons (ls_ret (le_cmp (o_eq (zu hr)) (le_bin o_band (le_bin o_shr (zv 0) (zv 1)) zi) zi rfl))
    lss_nil)
theorem d_2 : FnOk Pr w K mg base CX0 (k + 1) f2 e2 ["names", "world"] (spUp K (Z.wpCall sb P (k + 1)) 2) :=
  have F := FA r0
  def_ok T.u2 sc_2 rfl rfl rfl fun cdv A outer s H E E' hr =>
    (lss_cons (zasgc2 2 sc_2.nd ["names", "world", "so"] ["names", "world", "so"] (defScope (top 3)) rfl (li_enum1 rfl T.b_enumerate (zargs (zv 0) la_nil)) (fun _ _ _ _ => lc_one (ztru (zcall hr F.f1 T.m1 T.k1 T.g1 (zargs (zv 1) (zargs (zv 3) la_nil))))) (fun _ _ _ _ => (zv 4)))
    (lss_cons (ls_ret (le_bin o_add (le_bin o_add (zs (by decide +kernel) (by decide +kernel)) (zmth (m := .str) PySem.F.plainAttrs_str PySem.F.slot_str_join PySem.F.type_str_join m_join (zs (by decide +kernel) (by decide +kernel)) (zargs (zv 2) la_nil))) (zs (by decide +kernel) (by decide +kernel))))
    lss_nil))
theorem d_3 : FnOk Pr w K mg base CX0 (k + 1) f3 e3 ["script", "k"] (spUp K (Z.wpCall sb P (k + 1)) 3) :=
  have F := FA r0
  def_ok T.u3 sc_3 rfl rfl rfl fun cdv A outer s H E E' hr =>
    (lss_cons (ls_if (lt_cmp (isB_cmp rfl) o_lt (zv 1) (zcallB c_len T.b_len bt_len (zargs (zv 0) la_nil)) rfl)
    (lss_cons (ls_ret (zix hr (zv 0) (zv 1)))
    lss_nil)
    lss_nil)
    (lss_cons (ls_ret zi)
    lss_nil))
theorem d_4 : FnOk Pr w K mg base CX0 (k + 1) f4 e4 ["cell", "k"] (spUp K (Z.wpCall sb P (k + 1)) 4) :=
  have F := FA r0
  def_ok T.u4 sc_4 rfl rfl rfl fun cdv A outer s H E E' hr =>
    (lss_cons (zasg 2 sc_4.nd (le_bin o_mod (le_bin o_mul (le_bin o_add (le_bin o_add (le_bin o_mod (zv 0) zi) (le_bin o_mul zi (zv 1))) zi) zi) zi))
    (lss_cons (ls_ret (le_bin o_fdiv (le_bin o_mod (le_bin o_mul (zv 2) (zv 2)) zi) zi))
    lss_nil))
theorem d_5 : FnOk Pr w K mg base CX0 (k + 1) f5 e5 ["cell", "many"] (spUp K (Z.wpCall sb P (k + 1)) 5) :=
  have F := FA r0
  def_ok T.u5 sc_5 rfl rfl rfl fun cdv A outer s H E E' hr =>
    (lss_cons (zasg 2 sc_5.nd (zs (by decide +kernel) (by decide +kernel)))
    (lss_cons (zasgc1 3 sc_5.nd ["cell", "many", "letters", "base", "at", "some", "k", "name"] ["cell", "many", "letters", "base", "at", "some", ".k", "name"] (defScope (top 7)) rfl (li_rng1 rfl T.b_range (zargs (le_bin o_add zi (le_bin o_mod (zcall hr F.f4 T.m4 T.k4 T.g4 (zargs (zv 0) (zargs zi la_nil))) zi)) la_nil) rfl) (fun _ _ _ _ => lc_none) (fun _ _ _ _ => (zix hr (zv 2) (le_bin o_mod (zcall hr F.f4 T.m4 T.k4 T.g4 (zargs (zv 0) (zargs (le_bin o_add zi (zv 8)) la_nil))) zi))))
    (lss_cons (zasg 4 sc_5.nd (le_bin o_mod (zcall hr F.f4 T.m4 T.k4 T.g4 (zargs (zv 0) (zargs zi la_nil))) (zcallB c_len T.b_len bt_len (zargs (zv 3) la_nil))))
    (lss_cons (zasg 5 sc_5.nd (le_list la_nil))
    (lss_cons (zfor 6 PassesOwn.never rfl sc_5.nd (li_rng1 rfl T.b_range (zargs (zv 1) la_nil) rfl)
    (lss_cons (zasg 7 sc_5.nd (le_bin o_add (le_bin o_add (zmth (m := .str) PySem.F.plainAttrs_str PySem.F.slot_str_join PySem.F.type_str_join m_join (zs (by decide +kernel) (by decide +kernel)) (zargs (le_slH (zv 3) (zv 4)) la_nil)) (zix hr (zv 2) (le_bin o_mod (le_bin o_add (zcall hr F.f4 T.m4 T.k4 T.g4 (zargs (zv 0) (zargs zi la_nil))) (le_bin o_mul zi (zv 6))) zi))) (zmth (m := .str) PySem.F.plainAttrs_str PySem.F.slot_str_join PySem.F.type_str_join m_join (zs (by decide +kernel) (by decide +kernel)) (zargs (le_slL (zv 3) (le_bin o_add (zv 4) zi)) la_nil))))
    (lss_cons (ls_if (lt_cmp (isB_eq rfl) (o_eq (zu hr)) (le_bin o_mod (zcall hr F.f4 T.m4 T.k4 T.g4 (zargs (zv 0) (zargs zi la_nil))) zi) zi rfl)
    (lss_cons (zasg 7 sc_5.nd (le_slH (zv 7) (le_bin o_add (le_bin o_add (zv 4) zi) (le_bin o_mod (zcall hr F.f4 T.m4 T.k4 T.g4 (zargs (zv 0) (zargs (le_bin o_add zi (zv 6)) la_nil))) zi))))
    lss_nil)
    lss_nil)
    (lss_cons (ls_if (lt_cmp (isB_in rfl) (o_in (zu hr)) (zv 7) (le_tup (zargs (zs (by decide +kernel) (by decide +kernel)) (zargs (zs (by decide +kernel) (by decide +kernel)) (zargs (zs (by decide +kernel) (by decide +kernel)) (zargs (zs (by decide +kernel) (by decide +kernel)) (zargs (zs (by decide +kernel) (by decide +kernel)) (zargs (zs (by decide +kernel) (by decide +kernel)) la_nil))))))) rfl)
    (lss_cons (zasg 7 sc_5.nd (le_bin o_add (zv 7) (zs (by decide +kernel) (by decide +kernel))))
    lss_nil)
    lss_nil)
    (lss_cons (zexpr (zmth (m := .list) PySem.F.plainAttrs_list PySem.F.slot_list_append PySem.F.type_list_append m_append (zv 5) (zargs (zv 7) la_nil)))
    lss_nil)))))
    (lss_cons (ls_ret (zcallT c_tuple T.b_tuple bt_tuple (zargs (zcallB (c_sorted rfl) T.b_sorted bt_sorted (zargs (zv 5) la_nil)) la_nil)))
    lss_nil))))))
theorem d_6 : FnOk Pr w K mg base CX0 (k + 1) f6 e6 ["found"] (spUp K (Z.wpCall sb P (k + 1)) 6) :=
  have F := FA r0
  def_ok T.u6 sc_6 rfl rfl rfl fun cdv A outer s H E E' hr =>
    (lss_cons (ls_if (lt_not (ztru (zisi (k := .list) T.b_isinstance T.b_list bt_list (zv 0))))
    (lss_cons (ls_ret zb)
    lss_nil)
    lss_nil)
    (lss_cons (ls_ret (le_cmp (o_eq (zu hr)) (zcomp1 ["found"] ["found"] (defScope (top 8)) rfl (li_val (zv 0)) (fun _ _ _ _ => lc_one (PW.pt (lw_or (lt_not (ztru (zisi (k := .int) T.b_isinstance T.b_int bt_int (zv 1)))) (lw_or1 (ztru (zisi (k := .bool) T.b_isinstance T.b_bool bt_bool (zv 1))))))) (fun _ _ _ _ => (zv 1))) (le_list la_nil) rfl))
    lss_nil))
theorem d_7 : FnOk Pr w K mg base CX0 (k + 1) f7 e7 ["mask"] (spUp K (Z.wpCall sb P (k + 1)) 7) :=
  have F := FA r0
  def_ok T.u7 sc_7 rfl rfl rfl fun cdv A outer s H E E' hr =>
    (lss_cons (zasgc1 1 sc_7.nd ["mask", "due", "found"] ["mask", "due", "found"] (defScope (top 9)) rfl (li_rng1 rfl T.b_range (zargs zi la_nil) rfl) (fun _ _ _ _ => lc_one (lt_cmp (isB_eq rfl) (o_eq (zu hr)) (le_bin o_mod (le_bin o_fdiv (zv 0) (le_bin o_shl zi (zv 3))) zi) zi rfl)) (fun _ _ _ _ => (zv 3)))
    (lss_cons (zasg 2 sc_7.nd (zcall hr F.f0 T.m0 T.k0 T.g0 (zargs (zv 0) la_nil)))
    (lss_cons (ls_if (PW.pt (lw_or (lt_not (ztru (zcall hr F.f6 T.m6 T.k6 T.g6 (zargs (zv 2) la_nil)))) (lw_or1 (lt_cmp (isB_eq rfl) (o_ne (zu hr)) (zv 2) (zv 1) rfl))))
    (lss_cons (ls_ret zb)
    lss_nil)
    lss_nil)
    (lss_cons (zexpr (zmth (m := .list) PySem.F.plainAttrs_list PySem.F.slot_list_append PySem.F.type_list_append m_append (zv 2) (zargs zi la_nil)))
    (lss_cons (ls_ret (le_cmp (o_eq (zu hr)) (zcall hr F.f0 T.m0 T.k0 T.g0 (zargs (zv 0) la_nil)) (zv 1) rfl))
    lss_nil)))))
theorem d_8 : FnOk Pr w K mg base CX0 (k + 1) f8 e8 ["names", "world"] (spUp K (Z.wpCall sb P (k + 1)) 8) :=
  have F := FA r0
  def_ok T.u8 sc_8 rfl rfl rfl fun cdv A outer s H E E' hr =>
    (lss_cons (zasg 2 sc_8.nd (zs (by decide +kernel) (by decide +kernel)))
    (lss_cons (zfor 3 PassesOwn.never rfl sc_8.nd (li_rng1 rfl T.b_range (zargs (zcallB c_len T.b_len bt_len (zargs (zv 0) la_nil)) la_nil) rfl)
    (lss_cons (ls_if (PW.pt (lw_and (lt_cmp (isB_eq rfl) (o_eq (zu hr)) (le_bin o_mod (le_bin o_fdiv (zv 1) (le_bin o_shl zi (zv 3))) zi) zi rfl) (lw_and1 (lt_cmp (isB_eq rfl) (o_ne (zu hr)) (zv 2) (zs (by decide +kernel) (by decide +kernel)) rfl))))
    (lss_cons (zasg 2 sc_8.nd (le_bin o_add (le_bin o_add (zv 2) (zs (by decide +kernel) (by decide +kernel))) (zix hr (zv 0) (zv 3))))
    lss_nil)
    (lss_cons (ls_if (lt_cmp (isB_eq rfl) (o_eq (zu hr)) (le_bin o_mod (le_bin o_fdiv (zv 1) (le_bin o_shl zi (zv 3))) zi) zi rfl)
    (lss_cons (zasg 2 sc_8.nd (zix hr (zv 0) (zv 3)))
    lss_nil)
    lss_nil)
    lss_nil))
    lss_nil))
    (lss_cons (zasg 4 sc_8.nd (zcall hr F.f2 T.m2 T.k2 T.g2 (zargs (zv 0) (zargs (zv 1) la_nil))))
    (lss_cons (ls_ret (le_and (zisi (k := .str) T.b_isinstance T.b_str bt_str (zv 4)) (le_one (le_cmp (o_eq (zu hr)) (zv 4) (le_bin o_add (le_bin o_add (zs (by decide +kernel) (by decide +kernel)) (zv 2)) (zs (by decide +kernel) (by decide +kernel))) rfl))))
    lss_nil))))
theorem d_9 : FnOk Pr w K mg base CX0 (k + 1) f9 e9 ["script"] (spUp K (Z.wpCall sb P (k + 1)) 9) :=
  have F := FA r0
  def_ok T.u9 sc_9 rfl rfl rfl fun cdv A outer s H E E' hr =>
    (lss_cons (zasg 1 sc_9.nd (zcall hr F.f3 T.m3 T.k3 T.g3 (zargs (zv 0) (zargs zi la_nil))))
    (lss_cons (zasg 2 sc_9.nd (zsset T.b_sorted T.b_set (zcomp1 ["script", "first", "row", "drawn", "k", "names", "world"] ["script", "first", "row", "drawn", "k", "names", "world"] (defScope (top 11)) rfl (li_val (le_slH (zv 0) zi)) (fun _ _ _ _ => lc_none) (fun _ _ _ _ => (le_bin o_mod (zv 7) zi)))))
    (lss_cons (ls_if (lt_not (ztru (zcall hr F.f7 T.m7 T.k7 T.g7 (zargs (zcallB (c_sum rfl) T.b_sum bt_sum (zargs (zcomp1 ["script", "first", "row", "drawn", "k", "names", "world"] ["script", "first", "row", "drawn", "k", "names", "world"] (defScope (top 11)) rfl (li_val (zv 2)) (fun _ _ _ _ => lc_none) (fun _ _ _ _ => (le_bin o_shl zi (zv 7)))) la_nil)) la_nil))))
    (lss_cons (ls_ret zb)
    lss_nil)
    lss_nil)
    (lss_cons (zasg 3 sc_9.nd zi)
    (lss_cons (zfor 4 PassesOwn.never rfl sc_9.nd (li_rng1 rfl T.b_range (zargs zi la_nil) rfl)
    (lss_cons (zasg 3 sc_9.nd (le_bin o_add (le_bin o_mul (zv 3) zi) (zcall hr F.f4 T.m4 T.k4 T.g4 (zargs (zv 1) (zargs (le_bin o_add zi (zv 4)) la_nil)))))
    lss_nil))
    (lss_cons (ls_if (PW.pt (lw_or (lt_not (ztru (zcall hr F.f7 T.m7 T.k7 T.g7 (zargs (le_bin o_mod (zv 3) (le_bin o_shl zi zi)) la_nil)))) (lw_or1 (lt_not (ztru (zcall hr F.f7 T.m7 T.k7 T.g7 (zargs (le_bin o_shr (le_bin o_mod (zv 3) (le_bin o_shl zi zi)) (le_bin o_mod (zv 3) zi)) la_nil)))))))
    (lss_cons (ls_ret zb)
    lss_nil)
    lss_nil)
    (lss_cons (zasg 5 sc_9.nd (zcall hr F.f5 T.m5 T.k5 T.g5 (zargs (zv 1) (zargs (le_bin o_mod (zcall hr F.f4 T.m4 T.k4 T.g4 (zargs (zv 1) (zargs zi la_nil))) zi) la_nil))))
    (lss_cons (zfor 6 PassesOwn.never rfl sc_9.nd (li_rng1 rfl T.b_range (zargs (le_bin o_shl zi (zcallB c_len T.b_len bt_len (zargs (zv 5) la_nil))) la_nil) rfl)
    (lss_cons (ls_if (lt_not (ztru (zcall hr F.f8 T.m8 T.k8 T.g8 (zargs (zv 5) (zargs (zv 6) la_nil)))))
    (lss_cons (ls_ret zb)
    lss_nil)
    lss_nil)
    lss_nil))
    (lss_cons (ls_ret zb)
    lss_nil)))))))))
end
theorem fns (T : Txt K mg f0 f1 f2 f3 f4 f5 f6 f7 f8 f9 e0 e1 e2 e3 e4 e5 e6 e7 e8 e9) : ∀ (k : Nat) (r : R0), @Fns r Pr w K mg base k f0 f1 f2 f3 f4 f5 f6 f7 f8 f9 e0 e1 e2 e3 e4 e5 e6 e7 e8 e9 (Z.wpCall sb P k)
  | 0, r => ⟨def_no, def_no, def_no, def_no, def_no, def_no, def_no, def_no, def_no, def_no⟩
  | k + 1, r => have FA := fns T k; have F := FA r; ⟨d_0 T FA, d_1 T FA, d_2 T FA, d_3 T FA, d_4 T FA, d_5 T FA, d_6 T FA, d_7 T FA, d_8 T FA, d_9 T FA⟩
end
theorem all_mk {l : PySem.W.OpenLaw} {w : World} {K : PySem.W.Frag} {h : Heap} {mg : Str → Option Value} {fa f0 f1 f2 f3 f4 f5 f6 f7 f8 f9 : Addr} (X : K.In h) (G : h.Ns mainGlobals mg) (hfa : mg "law" = some (.ref fa))
    {od0 an0 od1 an1 od2 an2 od3 an3 od4 an4 od5 an5 od6 an6 od7 an7 od8 an8 od9 an9 : Option Addr} {sl0 sl1 sl2 sl3 sl4 sl5 sl6 sl7 sl8 sl9 : Array (Option Value)} {oc0 kV0 dc0 pm0 cd0 ct0 oc1 kV1 dc1 pm1 cd1 ct1 oc2 kV2 dc2 pm2 cd2 ct2 oc3 kV3 dc3 pm3 cd3 ct3 oc4 kV4 dc4 pm4 cd4 ct4 oc5 kV5 dc5 pm5 cd5 ct5 oc6 kV6 dc6 pm6 cd6 ct6 oc7 kV7 dc7 pm7 cd7 ct7 oc8 kV8 dc8 pm8 cd8 ct8 oc9 kV9 dc9 pm9 cd9 ct9 : Value}
    (a0 : PySem.W.nsIn K mainGlobals "places" = some (some (.ref f0)))
    (l0 : K.lookup f0 = some ⟨oc0, od0, .func (PySem.W.fnOf "places" "places" (defArgs (top 1)) (defBody (top 1)) (defScope (top 1)) .none kV0 dc0 pm0 an0 cd0 ct0), sl0⟩)
    (c0_ : PySem.W.codeIn K cd0 "places" = true)
    (k0 : PySem.W.keepIn K (.ref f0) = true)
    (a1 : PySem.W.nsIn K mainGlobals "has" = some (some (.ref f1)))
    (l1 : K.lookup f1 = some ⟨oc1, od1, .func (PySem.W.fnOf "has" "has" (defArgs (top 2)) (defBody (top 2)) (defScope (top 2)) .none kV1 dc1 pm1 an1 cd1 ct1), sl1⟩)
    (c1_ : PySem.W.codeIn K cd1 "has" = true)
    (k1 : PySem.W.keepIn K (.ref f1) = true)
    (a2 : PySem.W.nsIn K mainGlobals "shown_world" = some (some (.ref f2)))
    (l2 : K.lookup f2 = some ⟨oc2, od2, .func (PySem.W.fnOf "shown_world" "shown_world" (defArgs (top 3)) (defBody (top 3)) (defScope (top 3)) .none kV2 dc2 pm2 an2 cd2 ct2), sl2⟩)
    (c2_ : PySem.W.codeIn K cd2 "shown_world" = true)
    (k2 : PySem.W.keepIn K (.ref f2) = true)
    (a3 : PySem.W.nsIn K mainGlobals "_law_cell_at" = some (some (.ref f3)))
    (l3 : K.lookup f3 = some ⟨oc3, od3, .func (PySem.W.fnOf "_law_cell_at" "_law_cell_at" (defArgs (top 5)) (defBody (top 5)) (defScope (top 5)) .none kV3 dc3 pm3 an3 cd3 ct3), sl3⟩)
    (c3_ : PySem.W.codeIn K cd3 "_law_cell_at" = true)
    (k3 : PySem.W.keepIn K (.ref f3) = true)
    (a4 : PySem.W.nsIn K mainGlobals "_law_part" = some (some (.ref f4)))
    (l4 : K.lookup f4 = some ⟨oc4, od4, .func (PySem.W.fnOf "_law_part" "_law_part" (defArgs (top 6)) (defBody (top 6)) (defScope (top 6)) .none kV4 dc4 pm4 an4 cd4 ct4), sl4⟩)
    (c4_ : PySem.W.codeIn K cd4 "_law_part" = true)
    (k4 : PySem.W.keepIn K (.ref f4) = true)
    (a5 : PySem.W.nsIn K mainGlobals "_law_names" = some (some (.ref f5)))
    (l5 : K.lookup f5 = some ⟨oc5, od5, .func (PySem.W.fnOf "_law_names" "_law_names" (defArgs (top 7)) (defBody (top 7)) (defScope (top 7)) .none kV5 dc5 pm5 an5 cd5 ct5), sl5⟩)
    (c5_ : PySem.W.codeIn K cd5 "_law_names" = true)
    (k5 : PySem.W.keepIn K (.ref f5) = true)
    (a6 : PySem.W.nsIn K mainGlobals "_law_numbers" = some (some (.ref f6)))
    (l6 : K.lookup f6 = some ⟨oc6, od6, .func (PySem.W.fnOf "_law_numbers" "_law_numbers" (defArgs (top 8)) (defBody (top 8)) (defScope (top 8)) .none kV6 dc6 pm6 an6 cd6 ct6), sl6⟩)
    (c6_ : PySem.W.codeIn K cd6 "_law_numbers" = true)
    (k6 : PySem.W.keepIn K (.ref f6) = true)
    (a7 : PySem.W.nsIn K mainGlobals "_law_placed" = some (some (.ref f7)))
    (l7 : K.lookup f7 = some ⟨oc7, od7, .func (PySem.W.fnOf "_law_placed" "_law_placed" (defArgs (top 9)) (defBody (top 9)) (defScope (top 9)) .none kV7 dc7 pm7 an7 cd7 ct7), sl7⟩)
    (c7_ : PySem.W.codeIn K cd7 "_law_placed" = true)
    (k7 : PySem.W.keepIn K (.ref f7) = true)
    (a8 : PySem.W.nsIn K mainGlobals "_law_shown" = some (some (.ref f8)))
    (l8 : K.lookup f8 = some ⟨oc8, od8, .func (PySem.W.fnOf "_law_shown" "_law_shown" (defArgs (top 10)) (defBody (top 10)) (defScope (top 10)) .none kV8 dc8 pm8 an8 cd8 ct8), sl8⟩)
    (c8_ : PySem.W.codeIn K cd8 "_law_shown" = true)
    (k8 : PySem.W.keepIn K (.ref f8) = true)
    (a9 : PySem.W.nsIn K mainGlobals "law" = some (some (.ref f9)))
    (l9 : K.lookup f9 = some ⟨oc9, od9, .func (PySem.W.fnOf "law" "law" (defArgs (top 11)) (defBody (top 11)) (defScope (top 11)) .none kV9 dc9 pm9 an9 cd9 ct9), sl9⟩)
    (c9_ : PySem.W.codeIn K cd9 "law" = true)
    (k9 : PySem.W.keepIn K (.ref f9) = true)
    (z_bool : PySem.W.nsIn K mainGlobals "bool" = some none)
    (z_enumerate : PySem.W.nsIn K mainGlobals "enumerate" = some none)
    (z_int : PySem.W.nsIn K mainGlobals "int" = some none)
    (z_isinstance : PySem.W.nsIn K mainGlobals "isinstance" = some none)
    (z_len : PySem.W.nsIn K mainGlobals "len" = some none)
    (z_list : PySem.W.nsIn K mainGlobals "list" = some none)
    (z_range : PySem.W.nsIn K mainGlobals "range" = some none)
    (z_set : PySem.W.nsIn K mainGlobals "set" = some none)
    (z_sorted : PySem.W.nsIn K mainGlobals "sorted" = some none)
    (z_str : PySem.W.nsIn K mainGlobals "str" = some none)
    (z_sum : PySem.W.nsIn K mainGlobals "sum" = some none)
    (z_tuple : PySem.W.nsIn K mainGlobals "tuple" = some none)
    : ∃ fd : FuncData, (∀ (s : Shared) (v : Value), BindsTo s fd ⟨[v], []⟩ [("script", v)]) ∧ ∀ base : Heap, K.In base → base.Ns mainGlobals mg → FnOk l.prog w K mg base CX0 50 fa fd ["script"] (@spUp R0.nil K (Z.wpCall sb P 50) 9) := by
  letI : R0 := R0.nil
  have e := hfa.symm.trans (PySem.W.mg_of X G a9)
  cases e
  have F0 := fun_mk (st := (top 1)) l0 c0_ k0
  have B0 := F0.binds (ps := ["mask"]) fun _ _ _ _ _ _ us hl => by1 hl fun _ => rfl
  have F1 := fun_mk (st := (top 2)) l1 c1_ k1
  have B1 := F1.binds (ps := ["mask", "number"]) fun _ _ _ _ _ _ us hl => by2 hl fun _ _ => rfl
  have F2 := fun_mk (st := (top 3)) l2 c2_ k2
  have B2 := F2.binds (ps := ["names", "world"]) fun _ _ _ _ _ _ us hl => by2 hl fun _ _ => rfl
  have F3 := fun_mk (st := (top 5)) l3 c3_ k3
  have B3 := F3.binds (ps := ["script", "k"]) fun _ _ _ _ _ _ us hl => by2 hl fun _ _ => rfl
  have F4 := fun_mk (st := (top 6)) l4 c4_ k4
  have B4 := F4.binds (ps := ["cell", "k"]) fun _ _ _ _ _ _ us hl => by2 hl fun _ _ => rfl
  have F5 := fun_mk (st := (top 7)) l5 c5_ k5
  have B5 := F5.binds (ps := ["cell", "many"]) fun _ _ _ _ _ _ us hl => by2 hl fun _ _ => rfl
  have F6 := fun_mk (st := (top 8)) l6 c6_ k6
  have B6 := F6.binds (ps := ["found"]) fun _ _ _ _ _ _ us hl => by1 hl fun _ => rfl
  have F7 := fun_mk (st := (top 9)) l7 c7_ k7
  have B7 := F7.binds (ps := ["mask"]) fun _ _ _ _ _ _ us hl => by1 hl fun _ => rfl
  have F8 := fun_mk (st := (top 10)) l8 c8_ k8
  have B8 := F8.binds (ps := ["names", "world"]) fun _ _ _ _ _ _ us hl => by2 hl fun _ _ => rfl
  have F9 := fun_mk (st := (top 11)) l9 c9_ k9
  have B9 := F9.binds (ps := ["script"]) fun _ _ _ _ _ _ us hl => by1 hl fun _ => rfl
  refine ⟨PySem.W.fnOf "law" "law" (defArgs (top 11)) (defBody (top 11)) (defScope (top 11)) .none kV9 dc9 pm9 an9 cd9 ct9, fun s v => .of_eq rfl, fun base _ _ => ?_⟩
  exact (fns (Pr := l.prog) (w := w) (base := base) ⟨F0, B0, PySem.W.mg_of X G a0, k0, F1, B1, PySem.W.mg_of X G a1, k1, F2, B2, PySem.W.mg_of X G a2, k2, F3, B3, PySem.W.mg_of X G a3, k3, F4, B4, PySem.W.mg_of X G a4, k4, F5, B5, PySem.W.mg_of X G a5, k5, F6, B6, PySem.W.mg_of X G a6, k6, F7, B7, PySem.W.mg_of X G a7, k7, F8, B8, PySem.W.mg_of X G a8, k8, F9, B9, PySem.W.mg_of X G a9, k9, PySem.W.mg_none_of X G z_bool, PySem.W.mg_none_of X G z_enumerate, PySem.W.mg_none_of X G z_int, PySem.W.mg_none_of X G z_isinstance, PySem.W.mg_none_of X G z_len, PySem.W.mg_none_of X G z_list, PySem.W.mg_none_of X G z_range, PySem.W.mg_none_of X G z_set, PySem.W.mg_none_of X G z_sorted, PySem.W.mg_none_of X G z_str, PySem.W.mg_none_of X G z_sum, PySem.W.mg_none_of X G z_tuple⟩ 50 R0.nil).f9
end K10
open PySem PySem.W PyProof.Rows
set_option maxRecDepth 100000 in
set_option maxHeartbeats 0 in
theorem PySem.Challenge.cw_wontbook_k10_places_and_shown_holds : PySem.Challenge.rw_wontbook_k10_places_and_shown.Holds := by
  w_on; o_law; k_head; (case hw => w_witness2)
  k_fill
  refine ZS.walkZ (l := PySem.Challenge.rw_wontbook_k10_places_and_shown) (kk := 50) (i := 9) (sub := K10.sb) (Pg := K10.P) rfl rfl ⟨rfl, by decide, by decide⟩ (fun w h Y => PySem.W.kIn_of Y) (fun ns hl => K10.law_wp ns hl) ?F
  case F =>
    intro w mg fa h KX G hmg
    refine' K10.all_mk KX G hmg ?a0 ?l0 ?c0_ ?k0 ?a1 ?l1 ?c1_ ?k1 ?a2 ?l2 ?c2_ ?k2 ?a3 ?l3 ?c3_ ?k3 ?a4 ?l4 ?c4_ ?k4 ?a5 ?l5 ?c5_ ?k5 ?a6 ?l6 ?c6_ ?k6 ?a7 ?l7 ?c7_ ?k7 ?a8 ?l8 ?c8_ ?k8 ?a9 ?l9 ?c9_ ?k9 ?z_bool ?z_enumerate ?z_int ?z_isinstance ?z_len ?z_list ?z_range ?z_set ?z_sorted ?z_str ?z_sum ?z_tuple
    (case a0 => k_is)
    (case l0 => k_is)
    (case c0_ => k_is)
    (case k0 => k_is)
    (case a1 => k_is)
    (case l1 => k_is)
    (case c1_ => k_is)
    (case k1 => k_is)
    (case a2 => k_is)
    (case l2 => k_is)
    (case c2_ => k_is)
    (case k2 => k_is)
    (case a3 => k_is)
    (case l3 => k_is)
    (case c3_ => k_is)
    (case k3 => k_is)
    (case a4 => k_is)
    (case l4 => k_is)
    (case c4_ => k_is)
    (case k4 => k_is)
    (case a5 => k_is)
    (case l5 => k_is)
    (case c5_ => k_is)
    (case k5 => k_is)
    (case a6 => k_is)
    (case l6 => k_is)
    (case c6_ => k_is)
    (case k6 => k_is)
    (case a7 => k_is)
    (case l7 => k_is)
    (case c7_ => k_is)
    (case k7 => k_is)
    (case a8 => k_is)
    (case l8 => k_is)
    (case c8_ => k_is)
    (case k8 => k_is)
    (case a9 => k_is)
    (case l9 => k_is)
    (case c9_ => k_is)
    (case k9 => k_is)
    (case z_bool => k_is)
    (case z_enumerate => k_is)
    (case z_int => k_is)
    (case z_isinstance => k_is)
    (case z_len => k_is)
    (case z_list => k_is)
    (case z_range => k_is)
    (case z_set => k_is)
    (case z_sorted => k_is)
    (case z_str => k_is)
    (case z_sum => k_is)
    (case z_tuple => k_is)

