import PyProof.Rows.All
import Wide.All
import OpenK.AllK
import Wide.FinOn
import Lean
import PyProof.EqAt
import PyProof.EqKinds
import PyProof.TupleCall
import PyProof.ExcBaseAll.ValueError
import PyProof.ExcAttrAll.ValueError
import KE.KTryMore
import OpenK.KOwn
import PyProof.InstSpecial
import KE.KRevIter
import KE.KDictList
import PyProof.SetScanFacts
import PyProof.Rows.SetFrom
import KE.KRevIter
import PyProof.Rows.SortShell
import PyProof.CollectWalk
import PyProof.Rows.SortWalk
import PySem.Challenge.RW_wontbook_k01_a_sentence
set_option linter.all false
set_option bootstrap.genMatcherCode false
set_option linter.all false
noncomputable section
set_option genSizeOf false
set_option genInjectivity false
namespace Z
noncomputable abbrev S := List Nat
inductive D where
  | non | bl (b : Bool) | int (i : Int) | str (s : S) | tup (xs : List D) | rol (xs : List D) | ref (n : Nat)
noncomputable abbrev KK := Sum Int S
inductive AO where
  | lst (xs : List D) | dct (kvs : List (KK × D)) | obj (c : S) (fs : List (S × D)) | exc (c : S)
noncomputable abbrev AH := List AO
noncomputable abbrev Lo := List (Option D)
noncomputable def lim : Nat := 16777216
noncomputable def tx (s : String) : S := s.toList.map Char.toNat
noncomputable def eqZ (f : D → D → Option Bool) : List D → List D → Option Bool
  | [], [] => some true
  | [], _ :: _ => some false
  | _ :: _, [] => some false
  | x :: xs, y :: ys => match f x y, eqZ f xs ys with
    | some a, some b => some (a && b)
    | _, _ => none
noncomputable def eqN : Nat → D → D → Option Bool
  | _, .non, .non => some true
  | _, .non, .bl _ => some false
  | _, .non, .int _ => some false
  | _, .non, .str _ => some false
  | _, .bl _, .non => some false
  | _, .bl a, .bl b => some (a == b)
  | _, .bl _, .str _ => some false
  | _, .int _, .non => some false
  | _, .int a, .int b => some (a == b)
  | _, .int _, .str _ => some false
  | _, .str _, .non => some false
  | _, .str _, .bl _ => some false
  | _, .str _, .int _ => some false
  | _, .str a, .str b => some (a == b)
  | _ + 1, .non, .tup _ => some false
  | _ + 1, .bl _, .tup _ => some false
  | _ + 1, .int _, .tup _ => some false
  | _ + 1, .str _, .tup _ => some false
  | _ + 1, .tup _, .non => some false
  | _ + 1, .tup _, .bl _ => some false
  | _ + 1, .tup _, .int _ => some false
  | _ + 1, .tup _, .str _ => some false
  | n + 1, .tup xs, .tup ys => eqZ (eqN n) xs ys
  | _, _, _ => none
noncomputable def eqD (x y : D) : Option Bool := eqN 150 x y
noncomputable def seqOf (h : AH) : D → Option (List D)
  | .tup xs => some xs
  | .rol xs => some xs
  | .ref n => match h[n]? with
    | some (.lst xs) => some xs
    | _ => none
  | _ => none
noncomputable def eqLs (xs ys : List D) : Option Bool := if xs.length = ys.length then eqZ (eqN 149) xs ys else some false
noncomputable def eqH (h : AH) : D → D → Option Bool
  | .ref a, .ref b => match h[a]?, h[b]? with
    | some (.lst xs), some (.lst ys) => eqLs xs ys
    | _, _ => none
  | x, y => eqD x y
noncomputable def inDs (x : D) : List D → Option Bool
  | [] => some false
  | y :: ys => match eqN 149 y x, inDs x ys with
    | some a, some b => some (a || b)
    | _, _ => none
noncomputable def truthy (h : AH) : D → Option Bool
  | .non => some false
  | .bl b => some b
  | .int i => some (i != 0)
  | .str s => some (!s.isEmpty)
  | .tup xs => some (!xs.isEmpty)
  | .rol xs => some (!xs.isEmpty)
  | .ref n => match h[n]? with
    | some (.lst xs) => some (!xs.isEmpty)
    | some (.dct kvs) => some (!kvs.isEmpty)
    | _ => none
noncomputable def ixN (n : Nat) (i : Int) : Option Nat := if 0 ≤ i then (if i < n then some i.toNat else none) else if -(n : Int) ≤ i then some (i + n).toNat else none
noncomputable def atI {α : Type} (xs : List α) (i : Int) : Option α := (ixN xs.length i).bind fun j => xs[j]?
noncomputable def sIx (n d : Nat) : Option Int → Nat
  | none => d
  | some v => (if v < 0 then max (v + n) 0 else min v n).toNat
noncomputable def cut {α : Type} (xs : List α) (lo hi : Option Int) : List α := (xs.drop (sIx xs.length 0 lo)).take (sIx xs.length xs.length hi - sIx xs.length 0 lo)
noncomputable def kkOf : D → Option KK
  | .int i => some (.inl i)
  | .str s => some (.inr s)
  | _ => none
noncomputable def kkD : KK → D
  | .inl i => .int i
  | .inr s => .str s
noncomputable def dGet (kvs : List (KK × D)) (k : KK) : Option D := (kvs.find? fun kv => decide (kv.1 = k)).map (·.2)
noncomputable def dPut (kvs : List (KK × D)) (k : KK) (v : D) : List (KK × D) :=
  if kvs.any (fun kv => decide (kv.1 = k)) then kvs.map (fun kv => if kv.1 = k then (kv.1, v) else kv) else kvs ++ [(k, v)]
noncomputable def strsOf : List D → Option (List S)
  | [] => some []
  | .str s :: r => (strsOf r).map (s :: ·)
  | _ => none
noncomputable def intsOf : List D → Option (List Int)
  | [] => some []
  | .int s :: r => (intsOf r).map (s :: ·)
  | _ => none
noncomputable def sLt : S → S → Bool
  | [], [] => false
  | [], _ :: _ => true
  | _ :: _, [] => false
  | x :: xs, y :: ys => if x = y then sLt xs ys else decide (x < y)
noncomputable def insS (x : S) : List S → List S
  | [] => [x]
  | y :: ys => if sLt x y then x :: y :: ys else y :: insS x ys
noncomputable def sortS (l : List S) : List S := l.foldl (fun acc x => insS x acc) []
noncomputable def insI (x : Int) : List Int → List Int
  | [] => [x]
  | y :: ys => if x < y then x :: y :: ys else y :: insI x ys
noncomputable def sortI (l : List Int) : List Int := l.foldl (fun acc x => insI x acc) []
noncomputable def splitOn (c : Nat) : S → List S
  | [] => [[]]
  | x :: xs => if x = c then [] :: splitOn c xs else match splitOn c xs with
    | [] => [[x]]
    | w :: ws => (x :: w) :: ws
noncomputable def joinS (sep : S) : List S → S
  | [] => []
  | [x] => x
  | x :: y :: r => x ++ sep ++ joinS sep (y :: r)
noncomputable def lstrip (c : Nat) : S → S
  | [] => []
  | x :: xs => if x = c then lstrip c xs else x :: xs
noncomputable def strip (c : Nat) (s : S) : S := (lstrip c (lstrip c s).reverse).reverse
inductive KN | int | bool | str | list | tuple | cls (c : Nat)
  deriving DecidableEq
inductive Prim
  | add | sub | mul | fdiv | mod | pow | shl | shr | band | bor | bxor | neg | inv
  | eq | ne | lt | le | gt | ge | isN | notN | in_ | notin
  | mktup | mklst | mkdct
  | idx | sl00 | slL | slH | slLH
  | len | isi (k : KN) | max2 | min2
  | list_ | tuple_ | sorted_ | str_ | int_ | bool_
  | append | extend | pop | popat | insert | index | count | join | split | starts2 | starts3 | strip | find | bitlen | get1 | get2
  | setx
  | tget (t : List (S × D)) | tin (t : List (S × D))
  | fcat | not1 | sum1 | min1 | max1 | minD | sortset | lrng | lrev | sortedP
  | attr (cs : List S) (f : S) | setattr (cs : List S) (f : S)
  | isC (yes no : List S) | indexL | all1 | isE (yes no : List S) | inS
noncomputable def okR (i : Int) : Bool := @decide (-4611686018427387904 ≤ i ∧ i < 4611686018427387904) (Classical.propDecidable _)
theorem okR_iff {i : Int} : okR i = true ↔ (-4611686018427387904 ≤ i ∧ i < 4611686018427387904) := @decide_eq_true_iff _ (Classical.propDecidable _)
noncomputable def ok3 (a b c : Int) : Bool := @decide (-2147483648 ≤ a ∧ a < 2147483648 ∧ -2147483648 ≤ b ∧ b < 2147483648 ∧ 0 < c ∧ c < 1073741824) (Classical.propDecidable _)
noncomputable def smallI (i : Int) : Bool := @decide (-18446744073709551616 < i ∧ i < 18446744073709551616) (Classical.propDecidable _)
theorem smallI_iff {i : Int} : smallI i = true ↔ (-18446744073709551616 < i ∧ i < 18446744073709551616) := @decide_eq_true_iff _ (Classical.propDecidable _)
noncomputable def bigI (i : Int) : Bool := @decide (-2037035976334486086268445688409378161051468393665936250636140449354381299763336706183397376 < i ∧ i < 2037035976334486086268445688409378161051468393665936250636140449354381299763336706183397376) (Classical.propDecidable _)
theorem bigI_iff {i : Int} : bigI i = true ↔ (-2037035976334486086268445688409378161051468393665936250636140449354381299763336706183397376 < i ∧ i < 2037035976334486086268445688409378161051468393665936250636140449354381299763336706183397376) := @decide_eq_true_iff _ (Classical.propDecidable _)
noncomputable def bNot (x : Int) : Int := -x - 1
noncomputable def bAnd : Int → Int → Int
  | .ofNat a, .ofNat b => ((a &&& b : Nat) : Int)
  | .ofNat a, .negSucc b => ((a - (a &&& b) : Nat) : Int)
  | .negSucc a, .ofNat b => ((b - (b &&& a) : Nat) : Int)
  | .negSucc a, .negSucc b => .negSucc (a ||| b)
noncomputable def bOr (x y : Int) : Int := bNot (bAnd (bNot x) (bNot y))
noncomputable def bLen (i : Int) : Nat := if i = 0 then 0 else i.natAbs.log2 + 1
noncomputable def pairsOf : List D → Option (List (Int × Int))
  | [] => some []
  | .tup [.int a, .int b] :: r => (pairsOf r).map ((a, b) :: ·)
  | _ => none
noncomputable def pLt (x y : Int × Int) : Bool := decide (x.1 < y.1 ∨ (x.1 = y.1 ∧ x.2 < y.2))
noncomputable def insP (x : Int × Int) : List (Int × Int) → List (Int × Int)
  | [] => [x]
  | y :: ys => if pLt x y then x :: y :: ys else y :: insP x ys
noncomputable def sortP (l : List (Int × Int)) : List (Int × Int) := l.foldl (fun acc x => insP x acc) []
noncomputable def minL : List Int → Option Int
  | [] => none
  | x :: r => some (r.foldl (fun a b => if b < a then b else a) x)
noncomputable def maxL : List Int → Option Int
  | [] => none
  | x :: r => some (r.foldl (fun a b => if b > a then b else a) x)
noncomputable def onceI (l : List Int) : List Int := l.foldl (fun acc x => if acc.contains x then acc else acc ++ [x]) []
noncomputable def isSub (x : S) : S → Bool
  | [] => x.isEmpty
  | c :: r => x.isPrefixOf (c :: r) || isSub x r
noncomputable def fcatS : List D → Option S
  | [] => some []
  | .str s :: r => (fcatS r).map (s ++ ·)
  | _ => none
noncomputable def newL (xs : List D) (h : AH) : Option (D × AH) := if xs.length ≤ lim then some (.ref h.length, h ++ [.lst xs]) else none
noncomputable def setL (n : Nat) (xs : List D) (v : D) (h : AH) : Option (D × AH) := if xs.length ≤ lim then some (v, h.set n (.lst xs)) else none
noncomputable def isiB (h : AH) (sub : Nat → Nat → Bool) : KN → D → Option Bool
  | .int, .int _ => some true
  | .int, .bl _ => some true
  | .bool, .bl _ => some true
  | .str, .str _ => some true
  | .tuple, .tup _ => some true
  | .list, .rol _ => some true
  | .list, .ref n => match h[n]? with
    | some (.lst _) => some true
    | some (.dct _) => some false
    | _ => none
  | _, .ref n => match h[n]? with
    | some (.lst _) => some false
    | some (.dct _) => some false
    | _ => none
  | _, _ => some false
noncomputable def pAdd : List D → AH → Option (D × AH)
  | [.int i, .int j], h => some (.int (i + j), h)
  | [.str i, .str j], h => if i.length + j.length ≤ lim then some (.str (i ++ j), h) else none
  | [.tup i, .tup j], h => if i.isEmpty then some (.tup j, h) else if i.length + j.length ≤ lim then some (.tup (i ++ j), h) else none
  | [.ref a, .ref b], h => match h[a]?, h[b]? with
    | some (.lst xs), some (.lst ys) => newL (xs ++ ys) h
    | _, _ => none
  | [.ref a, .rol ys], h => match h[a]? with
    | some (.lst xs) => newL (xs ++ ys) h
    | _ => none
  | _, _ => none
noncomputable def pInt2 (f : Int → Int → Int) : List D → AH → Option (D × AH)
  | [.int i, .int j], h => some (.int (f i j), h)
  | _, _ => none
noncomputable def pMul : List D → AH → Option (D × AH)
  | [.int i, .int j], h => if smallI i || smallI j || (bigI i && bigI j) then some (.int (i * j), h) else none
  | [.ref a, .int k], h => match h[a]? with
    | some (.lst xs) => if okR k then newL (List.replicate k.toNat xs).flatten h else none
    | _ => none
  | _, _ => none
noncomputable def pFdiv : List D → AH → Option (D × AH)
  | [.int i, .int j], h => if 0 < j ∧ bigI j = true then some (.int (i / j), h) else none
  | _, _ => none
noncomputable def pMod : List D → AH → Option (D × AH)
  | [.int i, .int j], h => if 0 < j then some (.int (i % j), h) else none
  | _, _ => none
noncomputable def pPow : List D → AH → Option (D × AH)
  | [.int i, .int j], h => if 0 ≤ j ∧ j ≤ 1000000 ∧ i.natAbs < 18446744073709551616 then some (.int (i ^ j.toNat), h) else none
  | _, _ => none
noncomputable def pNeg : List D → AH → Option (D × AH)
  | [.int i], h => some (.int (-i), h)
  | _, _ => none
noncomputable def pEq (n : Bool) : List D → AH → Option (D × AH)
  | [x, y], h => (eqH h x y).map fun b => (.bl (b != n), h)
  | _, _ => none
noncomputable def pCmp (f : Int → Int → Bool) : List D → AH → Option (D × AH)
  | [.int i, .int j], h => some (.bl (f i j), h)
  | _, _ => none
noncomputable def pIsN (n : Bool) : List D → AH → Option (D × AH)
  | [.non], h => some (.bl (!n), h)
  | [_], h => some (.bl n, h)
  | _, _ => none
noncomputable def pIn (n : Bool) : List D → AH → Option (D × AH)
  | [x, .tup ys], h => (inDs x ys).map fun b => (.bl (b != n), h)
  | [x, .rol ys], h => (inDs x ys).map fun b => (.bl (b != n), h)
  | [x, .ref a], h => match h[a]? with
    | some (.lst ys) => (inDs x ys).map fun b => (.bl (b != n), h)
    | some (.dct kvs) => (kkOf x).map fun k => (.bl ((dGet kvs k).isSome != n), h)
    | _ => none
  | _, _ => none
noncomputable def pMkt (xs : List D) (h : AH) : Option (D × AH) := if xs.length ≤ lim then some (.tup xs, h) else none
noncomputable def pMkd : List D → AH → Option (D × AH)
  | [], h => some (.ref h.length, h ++ [.dct []])
  | _, _ => none
noncomputable def pIdx : List D → AH → Option (D × AH)
  | [.str s, .int i], h => (atI s i).map fun c => (.str [c], h)
  | [.tup xs, .int i], h => (atI xs i).map fun v => (v, h)
  | [.rol xs, .int i], h => (atI xs i).map fun v => (v, h)
  | [.ref n, k], h => match h[n]? with
    | some (.dct kvs) => (kkOf k).bind fun q => (dGet kvs q).map fun v => (v, h)
    | some (.lst xs) => match k with
      | .int i => (atI xs i).map fun v => (v, h)
      | _ => none
    | _ => none
  | _, _ => none
noncomputable def pSlice (x : D) (lo hi : Option Int) (h : AH) : Option (D × AH) := match x with
  | .str s => some (.str (cut s lo hi), h)
  | .tup xs => if sIx xs.length 0 lo = 0 ∧ sIx xs.length xs.length hi = xs.length then none else some (.tup (cut xs lo hi), h)
  | .rol xs => newL (cut xs lo hi) h
  | .ref n => match h[n]? with
    | some (.lst xs) => newL (cut xs lo hi) h
    | _ => none
  | _ => none
noncomputable def pSl00 : List D → AH → Option (D × AH)
  | [x], h => pSlice x none none h
  | _, _ => none
noncomputable def pSlL : List D → AH → Option (D × AH)
  | [x, .int i], h => pSlice x (some i) none h
  | _, _ => none
noncomputable def pSlH : List D → AH → Option (D × AH)
  | [x, .int i], h => pSlice x none (some i) h
  | _, _ => none
noncomputable def pSlLH : List D → AH → Option (D × AH)
  | [x, .int i, .int j], h => pSlice x (some i) (some j) h
  | _, _ => none
noncomputable def pLen : List D → AH → Option (D × AH)
  | [.str s], h => some (.int s.length, h)
  | [.tup s], h => some (.int s.length, h)
  | [.rol s], h => some (.int s.length, h)
  | [.ref n], h => match h[n]? with
    | some (.lst xs) => some (.int xs.length, h)
    | some (.dct xs) => some (.int xs.length, h)
    | _ => none
  | _, _ => none
noncomputable def pIsi (sub : Nat → Nat → Bool) (k : KN) : List D → AH → Option (D × AH)
  | [x], h => (isiB h sub k x).map fun b => (.bl b, h)
  | _, _ => none
noncomputable def pList : List D → AH → Option (D × AH)
  | [x], h => (seqOf h x).bind fun xs => newL xs h
  | _, _ => none
noncomputable def pTuple : List D → AH → Option (D × AH)
  | [x], h => (seqOf h x).map fun xs => (.tup xs, h)
  | _, _ => none
noncomputable def pSorted : List D → AH → Option (D × AH)
  | [.ref n], h => match h[n]? with
    | some (.lst xs) => (strsOf xs).bind fun ss => if ss.length < 64 then newL ((sortS ss).map .str) h else none
    | some (.dct kvs) => (strsOf (kvs.map fun kv => kkD kv.1)).bind fun ss => if ss.length < 64 then newL ((sortS ss).map .str) h else none
    | _ => none
  | _, _ => none
noncomputable def pSortedP : List D → AH → Option (D × AH)
  | [.ref n], h => match h[n]? with
    | some (.lst xs) => (pairsOf xs).bind fun ps => if ps.length < 65 then newL ((sortP ps).map fun p => .tup [.int p.1, .int p.2]) h else none
    | _ => none
  | _, _ => none
noncomputable def pNot1 : List D → AH → Option (D × AH)
  | [.bl b], h => some (.bl (!b), h)
  | _, _ => none
noncomputable def pShl : List D → AH → Option (D × AH)
  | [.int i, .int j], h => if 0 ≤ j ∧ j ≤ 1000000 ∧ i.natAbs < 18446744073709551616 then some (.int (i * 2 ^ j.toNat), h) else none
  | _, _ => none
noncomputable def pShr : List D → AH → Option (D × AH)
  | [.int i, .int j], h => if 0 ≤ j then some (.int (i / 2 ^ j.toNat), h) else none
  | _, _ => none
noncomputable def pInv : List D → AH → Option (D × AH)
  | [.int i], h => some (.int (bNot i), h)
  | _, _ => none
noncomputable def pBitlen : List D → AH → Option (D × AH)
  | [.int i], h => some (.int (bLen i), h)
  | _, _ => none
noncomputable def pSum1 : List D → AH → Option (D × AH)
  | [.ref n], h => match h[n]? with
    | some (.lst xs) => (intsOf xs).map fun is => (.int is.sum, h)
    | _ => none
  | _, _ => none
noncomputable def pMin1 (f : List Int → Option Int) : List D → AH → Option (D × AH)
  | [.ref n], h => match h[n]? with
    | some (.lst xs) => (intsOf xs).bind fun is => (f is).map fun i => (.int i, h)
    | _ => none
  | _, _ => none
noncomputable def pMinD : List D → AH → Option (D × AH)
  | [.ref n, d], h => match h[n]? with
    | some (.lst xs) => (intsOf xs).map fun is => (match minL is with | some i => .int i | none => d, h)
    | _ => none
  | _, _ => none
noncomputable def pSortset : List D → AH → Option (D × AH)
  | [.ref n], h => match h[n]? with
    | some (.lst xs) => (intsOf xs).bind fun is => if is.length < 200 then newL ((sortI (onceI is)).map .int) h else none
    | _ => none
  | _, _ => none
noncomputable def pLrng : List D → AH → Option (D × AH)
  | [.int n], h => if okR n then newL ((List.range n.toNat).map fun (k : Nat) => .int k) h else none
  | _, _ => none
noncomputable def pLrev : List D → AH → Option (D × AH)
  | [.ref n], h => match h[n]? with
    | some (.lst xs) => newL xs.reverse h
    | _ => none
  | _, _ => none
noncomputable def idxL (x : S) : List S → Option Nat
  | [] => none
  | y :: r => if y = x then some 0 else (idxL x r).map (· + 1)
noncomputable def pIndex : List D → AH → Option (D × AH)
  | [.tup xs, .str x], h => (strsOf xs).bind fun ss => (idxL x ss).map fun i => (.int i, h)
  | _, _ => none
noncomputable def pApp : List D → AH → Option (D × AH)
  | [.ref n, v], h => match h[n]? with
    | some (.lst xs) => setL n (xs ++ [v]) .non h
    | _ => none
  | _, _ => none
noncomputable def pExt : List D → AH → Option (D × AH)
  | [_, .rol _], _ => none
  | [.ref n, x], h => match h[n]?, seqOf h x with
    | some (.lst xs), some ys => setL n (xs ++ ys) .non h
    | _, _ => none
  | _, _ => none
noncomputable def pPop : List D → AH → Option (D × AH)
  | [.ref n], h => match h[n]? with
    | some (.lst xs) => match xs.getLast? with
      | some v => some (v, h.set n (.lst xs.dropLast))
      | none => none
    | _ => none
  | _, _ => none
noncomputable def pPopat : List D → AH → Option (D × AH)
  | [.ref n, .int i], h => match h[n]? with
    | some (.lst xs) => match ixN xs.length i with
      | some j => match xs[j]? with
        | some v => some (v, h.set n (.lst (xs.eraseIdx j)))
        | none => none
      | none => none
    | _ => none
  | _, _ => none
noncomputable def pJoin : List D → AH → Option (D × AH)
  | [.str sep, .ref n], h => match h[n]? with
    | some (.lst xs) => (strsOf xs).bind fun ss => if (ss.map fun s => s.length).sum + ss.length * sep.length ≤ lim then some (.str (joinS sep ss), h) else none
    | _ => none
  | _, _ => none
noncomputable def pSplit : List D → AH → Option (D × AH)
  | [.str s, .str [c]], h => newL ((splitOn c s).map .str) h
  | _, _ => none
noncomputable def pStarts : List D → AH → Option (D × AH)
  | [.str s, .str p], h => some (.bl (p.isPrefixOf s), h)
  | [.str s, .str p, .int i], h => if 0 ≤ i ∧ i ≤ s.length then some (.bl (p.isPrefixOf (s.drop i.toNat)), h) else none
  | _, _ => none
noncomputable def pStrip : List D → AH → Option (D × AH)
  | [.str s, .str [c]], h => some (.str (Z.strip c s), h)
  | _, _ => none
noncomputable def pSetx : List D → AH → Option (D × AH)
  | [.ref n, k, v], h => match h[n]? with
    | some (.dct kvs) => (kkOf k).bind fun q => if kvs.length < lim then some (.non, h.set n (.dct (dPut kvs q v))) else none
    | some (.lst xs) => match k with
      | .int i => match ixN xs.length i with
        | some j => some (.non, h.set n (.lst (xs.set j v)))
        | none => none
      | _ => none
    | _ => none
  | _, _ => none
noncomputable def pTget (t : List (S × D)) : List D → AH → Option (D × AH)
  | [.str k], h => (t.lookup k).map fun v => (v, h)
  | _, _ => none
noncomputable def pTin (t : List (S × D)) : List D → AH → Option (D × AH)
  | [.str k], h => some (.bl (t.lookup k).isSome, h)
  | _, _ => none
noncomputable def pFcat (xs : List D) (h : AH) : Option (D × AH) := (fcatS xs).bind fun s => if s.length ≤ lim then some (.str s, h) else none
noncomputable def pAttr (cs : List S) (f : S) : List D → AH → Option (D × AH)
  | [.ref n], h => match h[n]? with
    | some (.obj c fs) => if c ∈ cs then (fs.lookup f).map fun v => (v, h) else none
    | _ => none
  | _, _ => none
noncomputable def putA (f : S) (v : D) : List (S × D) → List (S × D)
  | [] => [(f, v)]
  | (g, x) :: r => if g = f then (g, v) :: r else (g, x) :: putA f v r
noncomputable def pSetA (cs : List S) (f : S) : List D → AH → Option (D × AH)
  | [v, .ref n], h => match h[n]? with
    | some (.obj c fs) => if c ∈ cs ∧ fs.length < 100 then some (.non, h.set n (.obj c (putA f v fs))) else none
    | _ => none
  | _, _ => none
noncomputable def blsOf : List D → Option (List Bool)
  | [] => some []
  | .bl s :: r => (blsOf r).map (s :: ·)
  | _ => none
noncomputable def pIsC (yes no : List S) : List D → AH → Option (D × AH)
  | [.ref n], h => match h[n]? with
    | some (.obj c _) => if c ∈ yes then some (.bl true, h) else if c ∈ no then some (.bl false, h) else none
    | _ => none
  | _, _ => none
noncomputable def pIsE (yes no : List S) : List D → AH → Option (D × AH)
  | [.ref n], h => match h[n]? with
    | some (.exc c) => if c ∈ yes then some (.bl true, h) else if c ∈ no then some (.bl false, h) else none
    | _ => none
  | _, _ => none
noncomputable def pIndexL : List D → AH → Option (D × AH)
  | [.ref n, .str x], h => match h[n]? with
    | some (.lst xs) => (strsOf xs).bind fun ss => (idxL x ss).map fun i => (.int i, h)
    | _ => none
  | _, _ => none
noncomputable def pCount : List D → AH → Option (D × AH)
  | [.ref n, .bl b], h => match h[n]? with
    | some (.lst xs) => (blsOf xs).map fun bs => (.int (bs.count b : Nat), h)
    | _ => none
  | _, _ => none
noncomputable def pAll : List D → AH → Option (D × AH)
  | [.ref n], h => match h[n]? with
    | some (.lst xs) => (blsOf xs).map fun bs => (.bl (bs.all id), h)
    | _ => none
  | _, _ => none
noncomputable def pInt1 : List D → AH → Option (D × AH)
  | [.bl b], h => some (.int (if b then 1 else 0), h)
  | _, _ => none
noncomputable def pInS : List D → AH → Option (D × AH)
  | [.str x, .str y], h => some (.bl (isSub x y), h)
  | _, _ => none
noncomputable def prim (sub : Nat → Nat → Bool) : Prim → List D → AH → Option (D × AH)
  | .add => pAdd
  | .sub => pInt2 (· - ·)
  | .mul => pMul
  | .fdiv => pFdiv
  | .mod => pMod
  | .pow => pPow
  | .neg => pNeg
  | .shl => pShl
  | .shr => pShr
  | .band => pInt2 bAnd
  | .bor => pInt2 bOr
  | .inv => pInv
  | .bitlen => pBitlen
  | .not1 => pNot1
  | .sum1 => pSum1
  | .min1 => pMin1 minL
  | .max1 => pMin1 maxL
  | .minD => pMinD
  | .sortset => pSortset
  | .sortedP => pSortedP
  | .lrng => pLrng
  | .lrev => pLrev
  | .index => pIndex
  | .eq => pEq false
  | .ne => pEq true
  | .lt => pCmp fun i j => decide (i < j)
  | .le => pCmp fun i j => decide (i ≤ j)
  | .gt => pCmp fun i j => decide (j < i)
  | .ge => pCmp fun i j => decide (j ≤ i)
  | .isN => pIsN false
  | .notN => pIsN true
  | .in_ => pIn false
  | .notin => pIn true
  | .mktup => pMkt
  | .mklst => newL
  | .mkdct => pMkd
  | .idx => pIdx
  | .sl00 => pSl00
  | .slL => pSlL
  | .slH => pSlH
  | .slLH => pSlLH
  | .len => pLen
  | .isi k => pIsi sub k
  | .max2 => pInt2 fun i j => if j > i then j else i
  | .min2 => pInt2 fun i j => if j < i then j else i
  | .list_ => pList
  | .tuple_ => pTuple
  | .sorted_ => pSorted
  | .append => pApp
  | .extend => pExt
  | .pop => pPop
  | .popat => pPopat
  | .join => pJoin
  | .split => pSplit
  | .starts2 => pStarts
  | .starts3 => pStarts
  | .strip => pStrip
  | .setx => pSetx
  | .tget t => pTget t
  | .tin t => pTin t
  | .fcat => pFcat
  | .attr cs f => pAttr cs f
  | .setattr cs f => pSetA cs f
  | .isC ys ns => pIsC ys ns
  | .isE ys ns => pIsE ys ns
  | .indexL => pIndexL
  | .count => pCount
  | .all1 => pAll
  | .int_ => pInt1
  | .inS => pInS
  | _ => fun _ _ => none
inductive IK | val | rng | rev | enum | zip
  deriving DecidableEq
inductive MK | list | str | dict | int | tuple
  deriving DecidableEq
noncomputable def tyB (h : AH) : MK → D → Bool
  | .list, .rol _ => true
  | .list, .ref n => match h[n]? with
    | some (.lst _) => true
    | _ => false
  | .dict, .ref n => match h[n]? with
    | some (.dct _) => true
    | _ => false
  | .str, .str _ => true
  | .int, .int _ => true
  | .tuple, .tup _ => true
  | _, _ => false
mutual
inductive Ex
  | var (i : Nat) | lit (d : D) | prim (p : Prim) (es : Exs)
  | andV (a b : Ex) | orV (a b : Ex) | tst (t : Tx) | ite (c : Tx) (a b : Ex)
  | chain (p q : Prim) (a b c : Ex) | slc (a b c : Ex)
  | mth (k : MK) (p : Prim) (o : Ex) (es : Exs)
  | call (f : Nat) (es : Exs) (ds : List D)
  | comp (k : IK) (src : Exs) (nt : Nat) (cond : Txs) (elt : Ex)
  | make (c : S) (f : Nat) (es : Exs) | meth (m : S) (tab : List (S × Nat)) (o : Ex) (es : Exs) | srt (e : Ex)
  | callX (f : Nat) (es : Exs) | sset (e : Ex)
inductive Exs
  | nil | cons (e : Ex) (es : Exs)
inductive Tx
  | tru (e : Ex) | and (a b : Tx) | or (a b : Tx) | not (a : Tx)
inductive Txs
  | none | one (t : Tx)
end
mutual
inductive Sm
  | expr (e : Ex) | asg (i : Nat) (e : Ex) | unp (is : List Nat) (e : Ex) | setx (o i v : Ex)
  | aug (i : Nat) (p : Prim) (e : Ex) | ret (e : Ex) | retN | ife (c : Tx) (a b : Sms)
  | whil (c : Tx) (b : Sms) | forr (tg : List Nat) (k : IK) (src : Exs) (b : Sms)
  | brk | cnt | pass | rais (c : Nat) (es : Exs) | raisC (c : S) | tryA (i f : Nat) (es : Exs) (c : S) (j : Nat) (hs : Sms)
  | tryM (t : Tx) (i : Nat) (m1 : S) (tab1 : List (S × Nat)) (o1 : Ex) (es1 : Exs) (m2 : S) (tab2 : List (S × Nat)) (o2 : Ex) (es2 : Exs) (c : S) (j : Nat) (hs : Sms)
inductive Sms
  | nil | cons (s : Sm) (ss : Sms)
end
noncomputable abbrev PV := D → AH → Prop
noncomputable abbrev PX := D → AH → Prop
noncomputable abbrev Gam := Nat → List D → AH → PV → PX → Prop
noncomputable def isPr : D → Bool
  | .tup [.int _, .int _] => true
  | _ => false
noncomputable def EF (_ : PX) : PX := fun _ _ => False
noncomputable abbrev It := Nat → AH → Option (Option D)
noncomputable def itList (n : Nat) : It := fun i h => match h[n]? with
  | some (.lst xs) => some xs[i]?
  | _ => none
noncomputable def itXs (xs : List D) : It := fun i _ => some xs[i]?
noncomputable def itRng (lo : Int) (n : Nat) : It := fun i _ => some (if i < n then some (.int (lo + i)) else none)
noncomputable def itEnumX (xs : List D) : It := fun i _ => some (xs[i]?.map fun x => .tup [.int i, x])
noncomputable def itRev (n len : Nat) : It := fun i h => match h[n]? with
  | some (.lst xs) => if xs.length = len then some (if i < len then xs[len - 1 - i]? else none) else none
  | _ => none
noncomputable def itZip (xs ys : List D) : It := fun i _ => match xs[i]?, ys[i]? with
  | some x, some y => some (some (.tup [x, y]))
  | _, _ => some none
noncomputable def itZipL (xs : List D) (n : Nat) : It := fun i h => match h[n]? with
  | some (.lst ys) => itZip xs ys i h
  | _ => none
noncomputable def itRng3 (lo st : Int) (n : Nat) : It := fun i _ => some (if i < n then some (.int (lo + st * i)) else none)
noncomputable def ioV : List D → AH → Option It
  | [.ref n], h => match h[n]? with
    | some (.lst _) => some (itList n)
    | _ => none
  | [.tup xs], _ => some (itXs xs)
  | [.rol xs], _ => some (itXs xs)
  | _, _ => none
noncomputable def ioR : List D → AH → Option It
  | [.int n], _ => if okR n then some (itRng 0 n.toNat) else none
  | [.int a, .int b], _ => if okR a && okR b then some (itRng a (b - a).toNat) else none
  | [.int a, .int b, .int c], _ => if ok3 a b c then some (itRng3 a c (if a < b then ((b - a - 1) / c + 1).toNat else 0)) else none
  | _, _ => none
noncomputable def ioE : List D → AH → Option It
  | [.tup xs], _ => some (itEnumX xs)
  | _, _ => none
noncomputable def ioZ : List D → AH → Option It
  | [.tup xs, .tup ys], _ => some (itZip xs ys)
  | [.tup xs, .ref n], h => match h[n]? with
    | some (.lst _) => some (itZipL xs n)
    | _ => none
  | _, _ => none
noncomputable def ioB : List D → AH → Option It
  | [.ref n], h => match h[n]? with
    | some (.lst xs) => some (itRev n xs.length)
    | _ => none
  | _, _ => none
noncomputable def iterOf : IK → List D → AH → Option It
  | .val => ioV
  | .rng => ioR
  | .enum => ioE
  | .zip => ioZ
  | .rev => ioB
structure En where
  nx : Lo → AH → Prop
  rt : PV
  bk : Lo → AH → Prop := fun _ _ => False
  ct : Lo → AH → Prop := fun _ _ => False
noncomputable def bindT : List Nat → D → Lo → Option Lo
  | [i], v, σ => some (σ.set i (some v))
  | is, .tup vs, σ => if is.length = vs.length then some ((is.zip vs).foldl (fun σ p => σ.set p.1 (some p.2)) σ) else none
  | _, _, _ => none
noncomputable def moreT : Nat → D → Lo → Option Lo
  | 1, v, σ => some (σ ++ [some v])
  | n, .tup vs, σ => if vs.length = n then some (σ ++ vs.map some) else none
  | _, _, _ => none
section
variable (sub : Nat → Nat → Bool) (Γ : Gam) (E : PX)
mutual
noncomputable def wpE : Ex → Lo → AH → PV → Prop
  | .var i, σ, h, Q => match σ[i]? with
    | some (some v) => Q v h
    | _ => False
  | .lit d, _, h, Q => Q d h
  | .prim p es, σ, h, Q => wpEs es σ h fun vs h1 => match prim sub p vs h1 with
    | some (v, h2) => Q v h2
    | none => False
  | .andV a b, σ, h, Q => wpE a σ h fun x h1 => match x with
    | .bl true => wpE b σ h1 Q
    | .bl false => Q (.bl false) h1
    | _ => False
  | .orV a b, σ, h, Q => wpE a σ h fun x h1 => match x with
    | .bl true => Q (.bl true) h1
    | .bl false => wpE b σ h1 Q
    | _ => False
  | .tst t, σ, h, Q => wpT t σ h fun c h1 => Q (.bl c) h1
  | .ite c a b, σ, h, Q => wpT c σ h fun k h1 => if k = true then wpE a σ h1 Q else wpE b σ h1 Q
  | .chain p q a b c, σ, h, Q => wpE a σ h fun x h1 => wpE b σ h1 fun y h2 => match prim sub p [x, y] h2 with
    | some (.bl true, h3) => wpE c σ h3 fun z h4 => match prim sub q [y, z] h4 with
      | some (v, h5) => Q v h5
      | none => False
    | some (.bl false, h3) => Q (.bl false) h3
    | _ => False
  | .slc a b c, σ, h, Q => wpE a σ h fun x h1 => wpE b σ h1 fun y h2 => match y with
    | .int i => wpE c σ h2 fun z h3 => match z with
      | .int j => match pSlice x (some i) (some j) h3 with
        | some (v, h4) => Q v h4
        | none => False
      | _ => False
    | _ => False
  | .mth k p o es, σ, h, Q => wpE o σ h fun x h1 => tyB h1 k x = true ∧ wpEs es σ h1 fun vs h2 => match prim sub p (x :: vs) h2 with
    | some (v, h3) => Q v h3
    | none => False
  | .call f es ds, σ, h, Q => wpEs es σ h fun vs h1 => Γ f (vs ++ ds) h1 Q (EF E)
  | .comp k src nt cond elt, σ, h, Q => wpEs src σ h fun vs h1 => match iterOf k vs h1 with
    | none => False
    | some J => ∃ W : Nat → Nat → AH → Prop, (∃ m, W 0 m (h1 ++ [.lst []])) ∧ ∀ i m h, W i m h → match J i h with
      | none => False
      | some none => Q (.ref h1.length) h
      | some (some v) => match moreT nt v σ with
        | none => False
        | some σ' => ∃ N : AH → Prop, (∀ h', N h' → ∃ m', m' < m ∧ W (i + 1) m' h') ∧ wpC cond σ' h fun c h2 => if c = true then wpE elt σ' h2 fun x h3 => match prim sub .append [.ref h1.length, x] h3 with
            | some (_, h4) => N h4
            | none => False
          else N h2
  | .make c f es, σ, h, Q => wpEs es σ h fun vs h1 => Γ f (.ref h1.length :: vs) (h1 ++ [.obj c []]) (fun v h2 => v = .non ∧ Q (.ref h1.length) h2) (EF E)
  | .meth m tab o es, σ, h, Q => wpE o σ h fun x h1 => match x with
    | .ref n => match h1[n]? with
      | some (.obj c fs) => fs.lookup m = none ∧ match tab.lookup c with
        | some f => wpEs es σ h1 fun vs h2 => Γ f (x :: vs) h2 Q (EF E)
        | none => False
      | _ => False
    | _ => False
  | .srt e, σ, h, Q => wpE e σ h fun x h1 => match x with
    | .ref n => match h1[n]? with
      | some (.lst zs) => zs.all isPr = true ∧ zs.length ≤ 64 ∧ ∀ ys : List D, ys.Perm zs → Q (.ref h1.length) (h1 ++ [.lst ys])
      | _ => False
    | _ => False
  | .callX f es, σ, h, Q => wpEs es σ h fun vs h1 => Γ f vs h1 Q E
  | .sset e, σ, h, Q => wpE e σ h fun x h1 => match x with
    | .ref n => match h1[n]? with
      | some (.lst zs) => match intsOf zs with
        | some is => is.length < 64 ∧ ∀ js : List Int, js.Nodup → (∀ j ∈ js, j ∈ is) → Q (.ref h1.length) (h1 ++ [.lst (js.map .int)])
        | none => False
      | _ => False
    | _ => False
noncomputable def wpEs : Exs → Lo → AH → (List D → AH → Prop) → Prop
  | .nil, _, h, Q => Q [] h
  | .cons e es, σ, h, Q => wpE e σ h fun v h1 => wpEs es σ h1 fun vs h2 => Q (v :: vs) h2
noncomputable def wpT : Tx → Lo → AH → (Bool → AH → Prop) → Prop
  | .tru e, σ, h, Q => wpE e σ h fun v h1 => match truthy h1 v with
    | some c => Q c h1
    | none => False
  | .and a b, σ, h, Q => wpT a σ h fun c h1 => if c = true then wpT b σ h1 Q else Q false h1
  | .or a b, σ, h, Q => wpT a σ h fun c h1 => if c = true then Q true h1 else wpT b σ h1 Q
  | .not a, σ, h, Q => wpT a σ h fun c h1 => Q (!c) h1
noncomputable def wpC : Txs → Lo → AH → (Bool → AH → Prop) → Prop
  | .none, _, h, Q => Q true h
  | .one t, σ, h, Q => wpT t σ h Q
end
noncomputable def wpM (m : S) (tab : List (S × Nat)) (o : Ex) (es : Exs) (σ : Lo) (h : AH) (Q : PV) (E' : PX) : Prop := wpE sub Γ E o σ h fun x h1 => match x with
  | .ref n => match h1[n]? with
    | some (.obj c fs) => fs.lookup m = none ∧ match tab.lookup c with
      | some f => wpEs sub Γ E es σ h1 fun vs h2 => Γ f (x :: vs) h2 Q E'
      | none => False
    | _ => False
  | _ => False
mutual
noncomputable def wpS : Sm → En → Lo → AH → Prop
  | .expr e, K, σ, h => wpE sub Γ E e σ h fun _ h1 => K.nx σ h1
  | .asg i e, K, σ, h => wpE sub Γ E e σ h fun v h1 => K.nx (σ.set i (some v)) h1
  | .unp is e, K, σ, h => wpE sub Γ E e σ h fun v h1 => match bindT is v σ with
    | some σ' => K.nx σ' h1
    | none => False
  | .setx o i v, K, σ, h => wpE sub Γ E v σ h fun x h1 => wpE sub Γ E o σ h1 fun y h2 => wpE sub Γ E i σ h2 fun z h3 => match prim sub .setx [y, z, x] h3 with
    | some (_, h4) => K.nx σ h4
    | none => False
  | .aug i p e, K, σ, h => match σ[i]? with
    | some (some x) => wpE sub Γ E e σ h fun y h1 => match prim sub p [x, y] h1 with
      | some (z, h2) => K.nx (σ.set i (some z)) h2
      | none => False
    | _ => False
  | .ret e, K, σ, h => wpE sub Γ E e σ h K.rt
  | .retN, K, _, h => K.rt .non h
  | .ife c a b, K, σ, h => wpT sub Γ E c σ h fun k h1 => if k = true then wpSs a K σ h1 else wpSs b K σ h1
  | .whil c b, K, σ, h => ∃ W : Nat → Lo → AH → Prop, (∃ m, W m σ h) ∧ ∀ m σ h, W m σ h →
      wpT sub Γ E c σ h fun k h1 => if k = true then ∃ N : Lo → AH → Prop, (∀ σ' h', N σ' h' → ∃ m', m' < m ∧ W m' σ' h') ∧ wpSs b { nx := N, rt := K.rt, bk := K.nx, ct := N } σ h1 else K.nx σ h1
  | .forr tg k src b, K, σ, h => wpEs sub Γ E src σ h fun vs h1 => match iterOf k vs h1 with
    | none => False
    | some J => ∃ W : Nat → Nat → Lo → AH → Prop, (∃ m, W 0 m σ h1) ∧ ∀ i m σ h, W i m σ h → match J i h with
      | none => False
      | some none => K.nx σ h
      | some (some v) => match bindT tg v σ with
        | none => False
        | some σ' => ∃ N : Lo → AH → Prop, (∀ σ' h', N σ' h' → ∃ m', m' < m ∧ W (i + 1) m' σ' h') ∧ wpSs b { nx := N, rt := K.rt, bk := K.nx, ct := N } σ' h
  | .brk, K, σ, h => K.bk σ h
  | .cnt, K, σ, h => K.ct σ h
  | .pass, K, σ, h => K.nx σ h
  | .rais _ _, _, _, _ => False
  | .raisC c, _, _, h => E (.str c) h
  | .tryA i f es c j hs, K, σ, h => wpEs sub Γ E es σ h fun vs h1 => Γ f vs h1 (fun v h2 => K.nx (σ.set i (some v)) h2) fun x h2 => x = .str c ∧ wpSs hs { nx := fun σ' h' => K.nx (σ'.set j none) h', rt := K.rt, bk := fun σ' h' => K.bk (σ'.set j none) h', ct := fun σ' h' => K.ct (σ'.set j none) h' } (σ.set j (some (.ref h2.length))) (h2 ++ [.exc c])
  | .tryM t i m1 tab1 o1 es1 m2 tab2 o2 es2 c j hs, K, σ, h => wpT sub Γ E t σ h fun k h1 =>
      (if k = true then wpM sub Γ E m1 tab1 o1 es1 σ h1 else wpM sub Γ E m2 tab2 o2 es2 σ h1) (fun v h2 => K.nx (σ.set i (some v)) h2)
        fun x h2 => x = .str c ∧ wpSs hs { nx := fun σ' h' => K.nx (σ'.set j none) h', rt := K.rt, bk := fun σ' h' => K.bk (σ'.set j none) h', ct := fun σ' h' => K.ct (σ'.set j none) h' } (σ.set j (some (.ref h2.length))) (h2 ++ [.exc c])
noncomputable def wpSs : Sms → En → Lo → AH → Prop
  | .nil, K, σ, h => K.nx σ h
  | .cons s ss, K, σ, h => wpS s { K with nx := fun σ' h' => wpSs ss K σ' h' } σ h
end
end
structure Def where
  np : Nat
  nl : Nat
  body : Sms
noncomputable def wpCall (sub : Nat → Nat → Bool) (P : List Def) : Nat → Gam
  | 0, _, _, _, _, _ => False
  | d + 1, f, vs, h, Q, E => match P[f]? with
    | some df => vs.length = df.np ∧ wpSs sub (wpCall sub P d) E df.body { nx := fun _ h => Q .non h, rt := Q } (vs.map some ++ List.replicate (df.nl - df.np) none) h
    | none => False
end Z
end
set_option linter.all false
namespace Z
section
variable {sub : Nat → Nat → Bool} {Γ : Gam} {E : PX}
section
variable {h : AH} {i j : Int} {s t : S} {x y v : D} {xs ys : List D} {a b n : Nat} {p q : Bool}
theorem p_addI : prim sub .add [.int i, .int j] h = some (.int (i + j), h) := rfl
theorem p_addL (ha : h[a]? = some (.lst xs)) (hb : h[b]? = some (.lst ys)) (hl : (xs ++ ys).length ≤ 16777216) : prim sub .add [.ref a, .ref b] h = some (.ref h.length, h ++ [.lst (xs ++ ys)]) := by
  show (match h[a]?, h[b]? with | some (.lst xs), some (.lst ys) => newL (xs ++ ys) h | _, _ => none) = _
  rw [ha, hb]; exact if_pos hl
theorem p_subI : prim sub .sub [.int i, .int j] h = some (.int (i - j), h) := rfl
theorem smallI_of (hj : -18446744073709551616 < j ∧ j < 18446744073709551616) : smallI j = true := smallI_iff.mpr hj
theorem p_mulI (hj : -18446744073709551616 < j ∧ j < 18446744073709551616) : prim sub .mul [.int i, .int j] h = some (.int (i * j), h) := if_pos (by rw [smallI_of hj, Bool.or_true, Bool.true_or])
theorem p_mulI' (hj : -18446744073709551616 < i ∧ i < 18446744073709551616) : prim sub .mul [.int i, .int j] h = some (.int (i * j), h) := if_pos (by rw [smallI_of hj, Bool.true_or, Bool.true_or])
theorem bigI_of (hj : -2037035976334486086268445688409378161051468393665936250636140449354381299763336706183397376 < j ∧ j < 2037035976334486086268445688409378161051468393665936250636140449354381299763336706183397376) : bigI j = true := bigI_iff.mpr hj
theorem p_fdiv (h0 : 0 < j ∧ j < 1073741824) : prim sub .fdiv [.int i, .int j] h = some (.int (i / j), h) := if_pos ⟨h0.1, bigI_of (by omega)⟩
theorem p_mod (h0 : 0 < j) : prim sub .mod [.int i, .int j] h = some (.int (i % j), h) := if_pos h0
theorem p_neg : prim sub .neg [.int i] h = some (.int (-i), h) := rfl
theorem p_lt : prim sub .lt [.int i, .int j] h = some (.bl (decide (i < j)), h) := rfl
theorem p_le : prim sub .le [.int i, .int j] h = some (.bl (decide (i ≤ j)), h) := rfl
theorem p_gt : prim sub .gt [.int i, .int j] h = some (.bl (decide (j < i)), h) := rfl
theorem p_ge : prim sub .ge [.int i, .int j] h = some (.bl (decide (j ≤ i)), h) := rfl
theorem p_app (ha : h[a]? = some (.lst xs)) (hl : xs.length < 16777216) : prim sub .append [.ref a, v] h = some (.non, h.set a (.lst (xs ++ [v]))) := by
  show (match h[a]? with | some (.lst xs) => setL a (xs ++ [v]) .non h | _ => none) = _
  rw [ha]
  exact if_pos (by simp [lim]; omega)
theorem p_lenL (ha : h[a]? = some (.lst xs)) : prim sub .len [.ref a] h = some (.int xs.length, h) := by
  show (match h[a]? with | some (.lst xs) => _ | some (.dct xs) => _ | _ => none) = _
  rw [ha]
end
theorem wp_for {tg : List Nat} {k : IK} {src : Exs} {b : Sms} {K : En} {σ : Lo} {h h1 : AH} {J : It} {xs : List D} {vs : List D} (Pv : Nat → Lo → AH → Prop)
    (he : ∀ Q : List D → AH → Prop, Q vs h1 → wpEs sub Γ E src σ h Q) (hi : iterOf k vs h1 = some J) (h0 : Pv 0 σ h1)
    (hJ : ∀ i σ h, i ≤ xs.length → Pv i σ h → J i h = some xs[i]?)
    (hs : ∀ i v σ h, xs[i]? = some v → Pv i σ h → ∃ σ', bindT tg v σ = some σ' ∧ wpSs sub Γ E b { nx := Pv (i + 1), rt := K.rt, bk := K.nx, ct := Pv (i + 1) } σ' h)
    (hd : ∀ σ h, Pv xs.length σ h → K.nx σ h) : wpS sub Γ E (.forr tg k src b) K σ h := by
  simp only [wpS]
  refine he _ ?_
  simp only [hi]
  refine ⟨fun i m σ h => m = xs.length - i ∧ i ≤ xs.length ∧ Pv i σ h, ⟨xs.length, by simp, Nat.zero_le _, h0⟩, ?_⟩
  rintro i m σ h ⟨rfl, hin, p⟩
  rw [hJ i σ h hin p]
  cases e : xs[i]? with
  | some v =>
    have hlt : i < xs.length := (List.getElem?_eq_some_iff.mp e).1
    obtain ⟨σ', eb, w⟩ := hs i v σ h e p
    simp only [eb]
    exact ⟨_, fun σ h p => ⟨xs.length - (i + 1), by omega, rfl, hlt, p⟩, w⟩
  | none =>
    have : i = xs.length := by have := List.getElem?_eq_none_iff.mp e; omega
    subst this
    exact hd σ h p
theorem wp_rng {tg : List Nat} {src : Exs} {b : Sms} {K : En} {σ : Lo} {h h1 : AH} {lo : Int} {n : Nat} {vs : List D} (Pv : Nat → Lo → AH → Prop)
    (he : ∀ Q : List D → AH → Prop, Q vs h1 → wpEs sub Γ E src σ h Q) (hi : iterOf .rng vs h1 = some (itRng lo n)) (h0 : Pv 0 σ h1)
    (hs : ∀ i σ h, i < n → Pv i σ h → ∃ σ', bindT tg (.int (lo + i)) σ = some σ' ∧ wpSs sub Γ E b { nx := Pv (i + 1), rt := K.rt, bk := K.nx, ct := Pv (i + 1) } σ' h)
    (hd : ∀ σ h, Pv n σ h → K.nx σ h) : wpS sub Γ E (.forr tg .rng src b) K σ h := by
  refine wp_for (xs := (List.range n).map fun i => .int (lo + (i : Nat))) (J := itRng lo n) Pv he hi h0 ?_ ?_ ?_
  · intro i σ h hin p
    simp only [List.length_map, List.length_range] at hin
    unfold itRng
    by_cases hlt : i < n
    · rw [if_pos hlt, List.getElem?_map, List.getElem?_range hlt]; rfl
    · rw [if_neg hlt, List.getElem?_eq_none (by simp; omega)]
  · intro i v σ h e p
    have hlt : i < n := by have := (List.getElem?_eq_some_iff.mp e).1; simpa using this
    rw [List.getElem?_map, List.getElem?_range hlt] at e
    cases e
    exact hs i σ h hlt p
  · intro σ h p
    simp only [List.length_map, List.length_range] at p
    exact hd σ h p
theorem wp_while {c : Tx} {b : Sms} {K : En} {σ : Lo} {h : AH} (Pv : Nat → Lo → AH → Prop) {m : Nat} (h0 : Pv m σ h)
    (hs : ∀ m σ h, Pv m σ h → wpT sub Γ E c σ h fun k h1 => if k = true then wpSs sub Γ E b { nx := fun σ' h' => ∃ m', m' < m ∧ Pv m' σ' h', rt := K.rt, bk := K.nx, ct := fun σ' h' => ∃ m', m' < m ∧ Pv m' σ' h' } σ h1 else K.nx σ h1)
    (mono : ∀ σ h Q Q', (∀ b h1, Q b h1 → Q' b h1) → wpT sub Γ E c σ h Q → wpT sub Γ E c σ h Q') : wpS sub Γ E (.whil c b) K σ h := by
  simp only [wpS]
  refine ⟨Pv, ⟨m, h0⟩, fun m σ h p => mono _ _ _ _ (fun c h1 q => ?_) (hs m σ h p)⟩
  cases c with
  | true => rw [if_pos rfl] at q ⊢; exact ⟨_, fun _ _ p => p, q⟩
  | false => exact q
end
end Z
set_option linter.all false
namespace Z
noncomputable def nd (a b : S) : Prop := ¬ b < a
end Z
set_option linter.all false
namespace Z
section
variable {sub : Nat → Nat → Bool} {Γ : Gam} {E E' : PX}
noncomputable def GMono (Γ : Gam) : Prop := ∀ f vs h (Q Q' : PV) (E E' : PX), (∀ v h', Q v h' → Q' v h') → (∀ v h', E v h' → E' v h') → Γ f vs h Q E → Γ f vs h Q' E'
mutual
theorem wpE_mono (hΓ : GMono Γ) (hE : ∀ x h, E x h → E' x h) : ∀ (e : Ex) (σ : Lo) (h : AH) (Q Q' : PV), (∀ v h', Q v h' → Q' v h') → wpE sub Γ E e σ h Q → wpE sub Γ E' e σ h Q'
  | .var i, σ, h, Q, Q', m, w => by
    simp only [wpE] at w ⊢
    split at w
    · rename_i v e; exact m _ _ w
    · exact w.elim
  | .lit d, σ, h, Q, Q', m, w => by simp only [wpE] at w ⊢; exact m _ _ w
  | .prim p es, σ, h, Q, Q', m, w => by
    simp only [wpE] at w ⊢
    refine wpEs_mono hΓ hE es σ h _ _ (fun vs h1 q => ?_) w
    split at q
    · rename_i e; exact m _ _ q
    · exact q.elim
  | .andV a b, σ, h, Q, Q', m, w => by
    simp only [wpE] at w ⊢
    refine wpE_mono hΓ hE a σ h _ _ (fun x h1 q => ?_) w
    split at q
    · exact wpE_mono hΓ hE b σ h1 _ _ m q
    · exact m _ _ q
    · exact q.elim
  | .orV a b, σ, h, Q, Q', m, w => by
    simp only [wpE] at w ⊢
    refine wpE_mono hΓ hE a σ h _ _ (fun x h1 q => ?_) w
    split at q
    · exact m _ _ q
    · exact wpE_mono hΓ hE b σ h1 _ _ m q
    · exact q.elim
  | .tst t, σ, h, Q, Q', m, w => by
    simp only [wpE] at w ⊢
    exact wpT_mono hΓ hE t σ h _ _ (fun c h1 q => m _ _ q) w
  | .ite c a b, σ, h, Q, Q', m, w => by
    simp only [wpE] at w ⊢
    refine wpT_mono hΓ hE c σ h _ _ (fun k h1 q => ?_) w
    cases k
    · exact wpE_mono hΓ hE b σ h1 _ _ m q
    · exact wpE_mono hΓ hE a σ h1 _ _ m q
  | .chain p q a b c, σ, h, Q, Q', m, w => by
    simp only [wpE] at w ⊢
    refine wpE_mono hΓ hE a σ h _ _ (fun x h1 q1 => wpE_mono hΓ hE b σ h1 _ _ (fun y h2 q2 => ?_) q1) w
    split at q2
    · rename_i e
      refine wpE_mono hΓ hE c σ _ _ _ (fun z h4 q4 => ?_) q2
      split at q4
      · rename_i e; exact m _ _ q4
      · exact q4.elim
    · rename_i e; exact m _ _ q2
    · exact q2.elim
  | .slc a b c, σ, h, Q, Q', m, w => by
    simp only [wpE] at w ⊢
    refine wpE_mono hΓ hE a σ h _ _ (fun x h1 q1 => wpE_mono hΓ hE b σ h1 _ _ (fun y h2 q2 => ?_) q1) w
    split at q2
    · refine wpE_mono hΓ hE c σ _ _ _ (fun z h4 q4 => ?_) q2
      split at q4
      · split at q4
        · rename_i e; exact m _ _ q4
        · exact q4.elim
      · exact q4.elim
    · exact q2.elim
  | .mth k p o es, σ, h, Q, Q', m, w => by
    simp only [wpE] at w ⊢
    refine wpE_mono hΓ hE o σ h _ _ (fun x h1 q1 => ⟨q1.1, wpEs_mono hΓ hE es σ h1 _ _ (fun vs h2 q => ?_) q1.2⟩) w
    split at q
    · rename_i e; exact m _ _ q
    · exact q.elim
  | .call f es ds, σ, h, Q, Q', m, w => by
    simp only [wpE] at w ⊢
    exact wpEs_mono hΓ hE es σ h _ _ (fun vs h1 q => hΓ _ _ _ _ _ _ _ m (fun _ _ z => z) q) w
  | .comp k src nt cond elt, σ, h, Q, Q', m, w => by
    simp only [wpE] at w ⊢
    refine wpEs_mono hΓ hE src σ h _ _ (fun vs h1 q => ?_) w
    split at q
    · exact q.elim
    · rename_i J e
      obtain ⟨W, hW, t⟩ := q
      refine ⟨W, hW, fun i n h2 w2 => ?_⟩
      have t := t i n h2 w2
      split at t
      · exact t.elim
      · exact m _ _ t
      · split at t
        · exact t.elim
        · obtain ⟨N, hN, t⟩ := t
          refine ⟨N, hN, wpC_mono hΓ hE cond _ _ _ _ (fun c h3 q => ?_) t⟩
          cases c
          · exact q
          · exact wpE_mono hΓ hE elt _ _ _ _ (fun x h4 q => q) q
  | .make c f es, σ, h, Q, Q', m, w => by
    simp only [wpE] at w ⊢
    exact wpEs_mono hΓ hE es σ h _ _ (fun vs h1 q => hΓ _ _ _ _ _ _ _ (fun v h2 z => ⟨z.1, m _ _ z.2⟩) (fun _ _ z => z) q) w
  | .meth n tab o es, σ, h, Q, Q', m, w => by
    simp only [wpE] at w ⊢
    refine wpE_mono hΓ hE o σ h _ _ (fun x h1 q => ?_) w
    split at q
    · split at q
      · refine ⟨q.1, ?_⟩
        have q := q.2
        split at q
        · exact wpEs_mono hΓ hE es σ h1 _ _ (fun vs h2 z => hΓ _ _ _ _ _ _ _ m (fun _ _ z => z) z) q
        · exact q.elim
      · exact q.elim
    · exact q.elim
  | .srt e, σ, h, Q, Q', m, w => by
    simp only [wpE] at w ⊢
    refine wpE_mono hΓ hE e σ h _ _ (fun x h1 q => ?_) w
    split at q
    · split at q
      · exact ⟨q.1, q.2.1, fun ys hp => m _ _ (q.2.2 ys hp)⟩
      · exact q.elim
    · exact q.elim
  | .callX f es, σ, h, Q, Q', m, w => by
    simp only [wpE] at w ⊢
    exact wpEs_mono hΓ hE es σ h _ _ (fun vs h1 q => hΓ _ _ _ _ _ _ _ m hE q) w
  | .sset e, σ, h, Q, Q', m, w => by
    simp only [wpE] at w ⊢
    refine wpE_mono hΓ hE e σ h _ _ (fun x h1 q => ?_) w
    split at q
    · split at q
      · split at q
        · exact ⟨q.1, fun js h1 h2 => m _ _ (q.2 js h1 h2)⟩
        · exact q.elim
      · exact q.elim
    · exact q.elim
theorem wpEs_mono (hΓ : GMono Γ) (hE : ∀ x h, E x h → E' x h) : ∀ (es : Exs) (σ : Lo) (h : AH) (Q Q' : List D → AH → Prop), (∀ v h', Q v h' → Q' v h') → wpEs sub Γ E es σ h Q → wpEs sub Γ E' es σ h Q'
  | .nil, σ, h, Q, Q', m, w => by simp only [wpEs] at w ⊢; exact m _ _ w
  | .cons e es, σ, h, Q, Q', m, w => by
    simp only [wpEs] at w ⊢
    exact wpE_mono hΓ hE e σ h _ _ (fun v h1 q => wpEs_mono hΓ hE es σ h1 _ _ (fun vs h2 q2 => m _ _ q2) q) w
theorem wpT_mono (hΓ : GMono Γ) (hE : ∀ x h, E x h → E' x h) : ∀ (t : Tx) (σ : Lo) (h : AH) (Q Q' : Bool → AH → Prop), (∀ v h', Q v h' → Q' v h') → wpT sub Γ E t σ h Q → wpT sub Γ E' t σ h Q'
  | .tru e, σ, h, Q, Q', m, w => by
    simp only [wpT] at w ⊢
    refine wpE_mono hΓ hE e σ h _ _ (fun v h1 q => ?_) w
    split at q
    · rename_i e; exact m _ _ q
    · exact q.elim
  | .and a b, σ, h, Q, Q', m, w => by
    simp only [wpT] at w ⊢
    refine wpT_mono hΓ hE a σ h _ _ (fun c h1 q => ?_) w
    cases c
    · exact m _ _ q
    · exact wpT_mono hΓ hE b σ h1 _ _ m q
  | .or a b, σ, h, Q, Q', m, w => by
    simp only [wpT] at w ⊢
    refine wpT_mono hΓ hE a σ h _ _ (fun c h1 q => ?_) w
    cases c
    · exact wpT_mono hΓ hE b σ h1 _ _ m q
    · exact m _ _ q
  | .not a, σ, h, Q, Q', m, w => by
    simp only [wpT] at w ⊢
    exact wpT_mono hΓ hE a σ h _ _ (fun c h1 q => m _ _ q) w
theorem wpC_mono (hΓ : GMono Γ) (hE : ∀ x h, E x h → E' x h) : ∀ (t : Txs) (σ : Lo) (h : AH) (Q Q' : Bool → AH → Prop), (∀ v h', Q v h' → Q' v h') → wpC sub Γ E t σ h Q → wpC sub Γ E' t σ h Q'
  | .none, σ, h, Q, Q', m, w => by simp only [wpC] at w ⊢; exact m _ _ w
  | .one t, σ, h, Q, Q', m, w => by simp only [wpC] at w ⊢; exact wpT_mono hΓ hE t σ h _ _ m w
end
structure EnLe (K K' : En) : Prop where
  nx : ∀ σ h, K.nx σ h → K'.nx σ h
  rt : ∀ v h, K.rt v h → K'.rt v h
  bk : ∀ σ h, K.bk σ h → K'.bk σ h
  ct : ∀ σ h, K.ct σ h → K'.ct σ h
theorem wpM_mono (hΓ : GMono Γ) (hE : ∀ x h, E x h → E' x h) {m : S} {tab : List (S × Nat)} {o : Ex} {es : Exs} {σ : Lo} {h : AH} {Q Q' : PV} {F F' : PX} (mq : ∀ v h', Q v h' → Q' v h') (mf : ∀ v h', F v h' → F' v h') (w : wpM sub Γ E m tab o es σ h Q F) : wpM sub Γ E' m tab o es σ h Q' F' := by
  unfold wpM at w ⊢
  refine wpE_mono hΓ hE o σ h _ _ (fun x h1 q => ?_) w
  split at q
  · split at q
    · refine ⟨q.1, ?_⟩
      have q := q.2
      split at q
      · exact wpEs_mono hΓ hE es σ h1 _ _ (fun vs h2 z => hΓ _ _ _ _ _ _ _ mq mf z) q
      · exact q.elim
    · exact q.elim
  · exact q.elim
mutual
theorem wpS_mono (hΓ : GMono Γ) (hE : ∀ x h, E x h → E' x h) : ∀ (s : Sm) (K K' : En) (σ : Lo) (h : AH), EnLe K K' → wpS sub Γ E s K σ h → wpS sub Γ E' s K' σ h
  | .expr e, K, K', σ, h, m, w => by simp only [wpS] at w ⊢; exact wpE_mono hΓ hE e σ h _ _ (fun _ _ q => m.nx _ _ q) w
  | .asg i e, K, K', σ, h, m, w => by simp only [wpS] at w ⊢; exact wpE_mono hΓ hE e σ h _ _ (fun _ _ q => m.nx _ _ q) w
  | .unp is e, K, K', σ, h, m, w => by
    simp only [wpS] at w ⊢
    refine wpE_mono hΓ hE e σ h _ _ (fun _ _ q => ?_) w
    split at q
    · rename_i e; exact m.nx _ _ q
    · exact q.elim
  | .setx o i v, K, K', σ, h, m, w => by
    simp only [wpS] at w ⊢
    refine wpE_mono hΓ hE v σ h _ _ (fun _ _ q1 => wpE_mono hΓ hE o σ _ _ _ (fun _ _ q2 => wpE_mono hΓ hE i σ _ _ _ (fun _ _ q => ?_) q2) q1) w
    split at q
    · rename_i e; exact m.nx _ _ q
    · exact q.elim
  | .aug i p e, K, K', σ, h, m, w => by
    simp only [wpS] at w ⊢
    split at w
    · rename_i x ex
      refine wpE_mono hΓ hE e σ h _ _ (fun _ _ q => ?_) w
      split at q
      · rename_i e; exact m.nx _ _ q
      · exact q.elim
    · exact w.elim
  | .ret e, K, K', σ, h, m, w => by simp only [wpS] at w ⊢; exact wpE_mono hΓ hE e σ h _ _ (fun _ _ q => m.rt _ _ q) w
  | .retN, K, K', σ, h, m, w => by simp only [wpS] at w ⊢; exact m.rt _ _ w
  | .ife c a b, K, K', σ, h, m, w => by
    simp only [wpS] at w ⊢
    refine wpT_mono hΓ hE c σ h _ _ (fun k h1 q => ?_) w
    cases k
    · exact wpSs_mono hΓ hE b K K' σ h1 m q
    · exact wpSs_mono hΓ hE a K K' σ h1 m q
  | .whil c b, K, K', σ, h, m, w => by
    simp only [wpS] at w ⊢
    obtain ⟨W, hW, t⟩ := w
    refine ⟨W, hW, fun n σ h w => wpT_mono hΓ hE c σ h _ _ (fun k h1 q => ?_) (t n σ h w)⟩
    cases k
    · exact m.nx _ _ q
    · obtain ⟨N, hN, q⟩ := q
      exact ⟨N, hN, wpSs_mono hΓ hE b { nx := N, rt := K.rt, bk := K.nx, ct := N } _ σ h1 ⟨fun _ _ q => q, m.rt, m.nx, fun _ _ q => q⟩ q⟩
  | .forr tg k src b, K, K', σ, h, m, w => by
    simp only [wpS] at w ⊢
    refine wpEs_mono hΓ hE src σ h _ _ (fun vs h1 q => ?_) w
    split at q
    · exact q.elim
    · rename_i J e
      obtain ⟨W, hW, t⟩ := q
      refine ⟨W, hW, fun i n σ2 h2 w2 => ?_⟩
      have t := t i n σ2 h2 w2
      split at t
      · exact t.elim
      · exact m.nx _ _ t
      · split at t
        · exact t.elim
        · rename_i eb
          obtain ⟨N, hN, q⟩ := t
          exact ⟨N, hN, wpSs_mono hΓ hE b { nx := N, rt := K.rt, bk := K.nx, ct := N } _ _ h2 ⟨fun _ _ q => q, m.rt, m.nx, fun _ _ q => q⟩ q⟩
  | .brk, K, K', σ, h, m, w => by simp only [wpS] at w ⊢; exact m.bk _ _ w
  | .cnt, K, K', σ, h, m, w => by simp only [wpS] at w ⊢; exact m.ct _ _ w
  | .pass, K, K', σ, h, m, w => by simp only [wpS] at w ⊢; exact m.nx _ _ w
  | .rais _ _, K, K', σ, h, m, w => by simp only [wpS] at w
  | .raisC c, K, K', σ, h, m, w => by simp only [wpS] at w ⊢; exact hE _ _ w
  | .tryA i f es c j hs, K, K', σ, h, m, w => by
    simp only [wpS] at w ⊢
    refine wpEs_mono hΓ hE es σ h _ _ (fun vs h1 q => hΓ _ _ _ _ _ _ _ (fun v h2 z => m.nx _ _ z) (fun x h2 z => ⟨z.1, wpSs_mono hΓ hE hs { nx := fun σ' h' => K.nx (σ'.set j none) h', rt := K.rt, bk := fun σ' h' => K.bk (σ'.set j none) h', ct := fun σ' h' => K.ct (σ'.set j none) h' } _ _ _ ⟨fun _ _ q => m.nx _ _ q, m.rt, fun _ _ q => m.bk _ _ q, fun _ _ q => m.ct _ _ q⟩ z.2⟩) q) w
  | .tryM t i m1 tab1 o1 es1 m2 tab2 o2 es2 c j hs, K, K', σ, h, m, w => by
    simp only [wpS] at w ⊢
    refine wpT_mono hΓ hE t σ h _ _ (fun k h1 q => ?_) w
    have mf : ∀ (x : D) (h2 : AH), (x = .str c ∧ wpSs sub Γ E hs { nx := fun σ' h' => K.nx (σ'.set j none) h', rt := K.rt, bk := fun σ' h' => K.bk (σ'.set j none) h', ct := fun σ' h' => K.ct (σ'.set j none) h' } (σ.set j (some (.ref h2.length))) (h2 ++ [.exc c])) → (x = .str c ∧ wpSs sub Γ E' hs { nx := fun σ' h' => K'.nx (σ'.set j none) h', rt := K'.rt, bk := fun σ' h' => K'.bk (σ'.set j none) h', ct := fun σ' h' => K'.ct (σ'.set j none) h' } (σ.set j (some (.ref h2.length))) (h2 ++ [.exc c])) :=
      fun x h2 z => ⟨z.1, wpSs_mono hΓ hE hs { nx := fun σ' h' => K.nx (σ'.set j none) h', rt := K.rt, bk := fun σ' h' => K.bk (σ'.set j none) h', ct := fun σ' h' => K.ct (σ'.set j none) h' } _ _ _ ⟨fun _ _ q => m.nx _ _ q, m.rt, fun _ _ q => m.bk _ _ q, fun _ _ q => m.ct _ _ q⟩ z.2⟩
    cases k
    · exact wpM_mono hΓ hE (fun v h2 z => m.nx _ _ z) mf q
    · exact wpM_mono hΓ hE (fun v h2 z => m.nx _ _ z) mf q
theorem wpSs_mono (hΓ : GMono Γ) (hE : ∀ x h, E x h → E' x h) : ∀ (s : Sms) (K K' : En) (σ : Lo) (h : AH), EnLe K K' → wpSs sub Γ E s K σ h → wpSs sub Γ E' s K' σ h
  | .nil, K, K', σ, h, m, w => by simp only [wpSs] at w ⊢; exact m.nx _ _ w
  | .cons s ss, K, K', σ, h, m, w => by
    simp only [wpSs] at w ⊢
    exact wpS_mono hΓ hE s { K with nx := fun σ' h' => wpSs sub Γ E ss K σ' h' } _ σ h ⟨fun σ' h' q => wpSs_mono hΓ hE ss K K' σ' h' m q, m.rt, m.bk, m.ct⟩ w
end
end
theorem wpCall_mono {sub : Nat → Nat → Bool} {P : List Def} : ∀ d, GMono (wpCall sub P d)
  | 0, f, vs, h, Q, Q', E, E', m, mE, w => by simp only [wpCall] at w
  | d + 1, f, vs, h, Q, Q', E, E', m, mE, w => by
    simp only [wpCall] at w ⊢
    split at w
    · rename_i df e
      exact ⟨w.1, wpSs_mono (wpCall_mono d) mE _ { nx := fun _ h => Q .non h, rt := Q } _ _ _ ⟨fun _ _ q => m _ _ q, fun _ _ q => m _ _ q, fun _ _ q => q, fun _ _ q => q⟩ w.2⟩
    · exact w.elim
section
variable {sub : Nat → Nat → Bool} {P : List Def} {E : PX} {d : Nat}
theorem wp_seq {s : Sm} {ss : Sms} {K : En} {σ : Lo} {h : AH} (M : Lo → AH → Prop) (w : wpS sub (wpCall sub P d) E s { K with nx := M } σ h) (q : ∀ σ' h', M σ' h' → wpSs sub (wpCall sub P d) E ss K σ' h') : wpS sub (wpCall sub P d) E s { K with nx := fun σ' h' => wpSs sub (wpCall sub P d) E ss K σ' h' } σ h :=
  wpS_mono (wpCall_mono d) (fun _ _ z => z) s { K with nx := M } _ σ h ⟨q, fun _ _ q => q, fun _ _ q => q, fun _ _ q => q⟩ w
theorem wp_whileC {c : Tx} {b : Sms} {K : En} {σ : Lo} {h : AH} (Pv : Nat → Lo → AH → Prop) {m : Nat} (h0 : Pv m σ h)
    (hs : ∀ m σ h, Pv m σ h → wpT sub (wpCall sub P d) E c σ h fun k h1 => if k = true then wpSs sub (wpCall sub P d) E b { nx := fun σ' h' => ∃ m', m' < m ∧ Pv m' σ' h', rt := K.rt, bk := K.nx, ct := fun σ' h' => ∃ m', m' < m ∧ Pv m' σ' h' } σ h1 else K.nx σ h1) : wpS sub (wpCall sub P d) E (.whil c b) K σ h :=
  wp_while Pv h0 hs fun σ h Q Q' m w => wpT_mono (wpCall_mono d) (fun _ _ z => z) c σ h _ _ m w
end
end Z
set_option Elab.async false
set_option linter.all false
set_option maxRecDepth 100000
namespace L2
open PySem PySem.Spec PyProof.Rows
noncomputable abbrev Key := Sum Int Str
noncomputable def keyIs : Key → Value → Bool
  | .inl k, v => Value.isInt k v
  | .inr x, v => Value.isStrOf x v
noncomputable def keyH (w : World) : Key → Int
  | .inl k => hashInt k
  | .inr x => hashStr w x
theorem keyIs_shape : ∀ {k : Key} {v : Value}, keyIs k v = true → (∃ i t, k = Sum.inl i ∧ v = Value.int i t) ∨ (∃ x t, k = Sum.inr x ∧ v = Value.str x t)
  | .inl i, v, h => by
    obtain ⟨t, e⟩ := Value.isInt_shape (k := i) (v := v) h
    exact .inl ⟨i, t, rfl, e⟩
  | .inr x, v, h => by
    obtain ⟨t, e⟩ := Value.isStrOf_shape (x := x) (v := v) h
    exact .inr ⟨x, t, rfl, e⟩
theorem keyIs_int (i : Int) (t : Tok) : keyIs (.inl i) (.int i t) = true := by simp [keyIs, Value.isInt]
theorem keyIs_str (x : Str) (t : Tok) : keyIs (.inr x) (.str x t) = true := by simp [keyIs, Value.isStrOf]
theorem key_ll (a b : Int) : decide ((Sum.inl a : Key) = Sum.inl b) = (a == b) := by
  by_cases e : a = b
  · subst e; simp
  · have h : ¬ (Sum.inl a : Key) = Sum.inl b := fun q => e (Sum.inl.inj q)
    rw [decide_eq_false h]
    exact (beq_eq_false_iff_ne.mpr e).symm
theorem key_rr (a b : Str) : decide ((Sum.inr a : Key) = Sum.inr b) = decide (a = b) := by
  by_cases e : a = b
  · subst e; simp
  · have h : ¬ (Sum.inr a : Key) = Sum.inr b := fun q => e (Sum.inr.inj q)
    rw [decide_eq_false h, decide_eq_false e]
theorem key_lr (a : Int) (b : Str) : decide ((Sum.inl a : Key) = Sum.inr b) = false := decide_eq_false (fun q => nomatch q)
theorem key_rl (a : Str) (b : Int) : decide ((Sum.inr a : Key) = Sum.inl b) = false := decide_eq_false (fun q => nomatch q)
noncomputable def mixKind (prog : Program) (w : World) : PySem.KeyKind prog w Key where
  is := keyIs
  hash := keyH w
  inj := fun v a b ha hb => by
    rcases keyIs_shape ha with ⟨i, t, rfl, rfl⟩ | ⟨x, t, rfl, rfl⟩
    · rcases keyIs_shape hb with ⟨j, u, rfl, e⟩ | ⟨y, u, rfl, e⟩
      · injection e with e1 _; rw [e1]
      · exact nomatch e
    · rcases keyIs_shape hb with ⟨j, u, rfl, e⟩ | ⟨y, u, rfl, e⟩
      · exact nomatch e
      · injection e with e1 _; rw [e1]
  byValue := fun k v h => by
    rcases keyIs_shape h with ⟨i, t, rfl, rfl⟩ | ⟨x, t, rfl, rfl⟩ <;> rfl
  pyHash := fun hv h => by
    rcases keyIs_shape hv with ⟨i, t, rfl, rfl⟩ | ⟨x, t, rfl, rfl⟩
    · exact wpAny_pyHash_int h
    · exact wpAny_pyHash_str h
  eqBool := fun hu hv h => by
    rcases keyIs_shape hu with ⟨i, t, rfl, rfl⟩ | ⟨x, t, rfl, rfl⟩
    · rcases keyIs_shape hv with ⟨j, u, rfl, rfl⟩ | ⟨y, u, rfl, rfl⟩
      · rw [key_ll] at h; exact wpAny_eqBool_int h
      · rw [key_lr] at h; exact SeqAt.EqAt.int_str i t y u _ _ _ _ h
    · rcases keyIs_shape hv with ⟨j, u, rfl, rfl⟩ | ⟨y, u, rfl, rfl⟩
      · rw [key_rl] at h; exact SeqAt.EqAt.str_int x t j u _ _ _ _ h
      · rw [key_rr] at h; exact wpAny_eqBool_str h
  «strs» := fun k x t v h => by
    rcases keyIs_shape h with ⟨i, u, rfl, e⟩ | ⟨y, u, rfl, e⟩
    · exact nomatch e
    · injection e with e1 _
      subst e1
      cases v <;> rfl
theorem mixKind_int (prog : Program) (w : World) (i : Int) (t : Tok) : (mixKind prog w).is (.inl i) (.int i t) = true := keyIs_int i t
theorem mixKind_str (prog : Program) (w : World) (x : Str) (t : Tok) : (mixKind prog w).is (.inr x) (.str x t) = true := keyIs_str x t
end L2
namespace L2
open PySem PySem.Spec PyProof.Rows
inductive V where
  | non | bl (b : Bool) | int (i : Int) | str (x : Str) | byt (b : Array UInt8) | flt (b : UInt64) | ref (a : Addr) | ty (n : String)
  deriving DecidableEq
noncomputable def RelV : V → Value → Prop
  | .non, u => u = Value.none
  | .bl b, u => u = Value.bool b
  | .int i, u => ∃ t, u = Value.int i t
  | .str x, u => ∃ t, u = Value.str x t
  | .byt b, u => ∃ t, u = Value.bytes b t
  | .flt b, u => ∃ t, u = Value.float b t
  | .ref a, u => u = Value.ref a
  | .ty n, u => u = Value.type n
noncomputable abbrev Vals : List V → List Value → Prop := Paired RelV
theorem Vals.length {xs : List V} {us : List Value} (r : Vals xs us) : xs.length = us.length := Paired.length r
theorem Vals.get : ∀ {xs : List V} {us : List Value} {i : Nat} {x : V}, Vals xs us → xs[i]? = some x → ∃ u, us[i]? = some u ∧ RelV x u
  | _, _, _, _, .nil, e => by simp at e
  | _, _, 0, _, .cons r _, e => by simp at e; subst e; exact ⟨_, rfl, r⟩
  | _, _, i + 1, x, .cons _ t, e => by
    obtain ⟨u, h1, h2⟩ := Vals.get (i := i) (x := x) t (by simpa using e)
    exact ⟨u, by simpa using h1, h2⟩
theorem Vals.append : ∀ {xs ys : List V} {us ws : List Value}, Vals xs us → Vals ys ws → Vals (xs ++ ys) (us ++ ws)
  | _, _, _, _, .nil, s => s
  | _, _, _, _, .cons r t, s => .cons r (Vals.append t s)
theorem Vals.take : ∀ {xs : List V} {us : List Value} (n : Nat), Vals xs us → Vals (xs.take n) (us.take n)
  | _, _, 0, _ => .nil
  | _, _, _ + 1, .nil => .nil
  | _, _, n + 1, .cons r t => .cons r (Vals.take n t)
theorem Vals.drop : ∀ {xs : List V} {us : List Value} (n : Nat), Vals xs us → Vals (xs.drop n) (us.drop n)
  | _, _, 0, r => r
  | _, _, _ + 1, .nil => .nil
  | _, _, n + 1, .cons _ t => Vals.drop n t
noncomputable def RelO : Option V → Option Value → Prop
  | some v, some u => RelV v u
  | none, none => True
  | _, _ => False
noncomputable def KV {κ : Type} : List (κ × V) → List (κ × Value) → Prop := Paired fun (p : κ × V) (q : κ × Value) => p.1 = q.1 ∧ RelV p.2 q.2
noncomputable def kV : Key → V
  | .inl i => .int i
  | .inr x => .str x
inductive HO where
  /-- a list -/
  | lst (xs : List V)
  /-- a tuple (never changes) -/
  | tup (xs : List V)
  /-- a dict whose keys are ints and texts; one whose keys are tuples of ints and texts (the empty one is both) -/
  | dK (kvs : List (Key × V)) | dT (kvs : List (List Key × V))
  /-- a set of ints: its members, its size -/
  | set (S : Int → Bool) (n : Nat)
  /-- an instance of the class at C, its dict at dx, its attributes -/
  | ins (C dx : Addr) (fs : List (Str × V))
  /-- the dict of the instance at x -/
  | own (x : Addr)
  /-- the dict of an exception -/
  | xd (fs : List (Str × V))
  /-- a bound method, f of x -/
  | met (f x : Addr)
  /-- a range object lo, lo + 1, .. below hi -/
  | rng (lo hi : Int)
  /-- a thing that is known to the object (the script; a dict while a loop walks it): read, never written while it is so -/
  | frz (o : Obj) (u : HO)
  /-- a code object's table -/
  | tbl (ps : Array Value)
  /-- any other thing, by what is true of its one object (a def of one's own: SetO a S n := HO.ext fun h => ..) -/
  | ext (φ : Heap → Prop)
noncomputable abbrev Hp := Addr → Option HO
noncomputable def upd (H : Hp) (a : Addr) (o : HO) : Hp := fun b => if b = a then some o else H b
theorem upd_same {H : Hp} {a : Addr} {o : HO} : upd H a o a = some o := by unfold upd; rw [if_pos rfl]
theorem upd_ne {H : Hp} {a b : Addr} {o : HO} (h : b ≠ a) : upd H a o b = H b := by unfold upd; rw [if_neg h]
theorem ne_of {H : Hp} {a b : Addr} {o u : HO} (h : H a = some o) (h' : H b = some u) (d : o ≠ u) : a ≠ b := by
  intro e; subst e; rw [h] at h'; exact d (Option.some.inj h')
theorem ne_of_none {H : Hp} {a b : Addr} {o : HO} (h : H a = some o) (h' : H b = none) : a ≠ b := by
  intro e; subst e; rw [h] at h'; cases h'
noncomputable def IsTupN (h : Heap) (a : Addr) (items : Array Value) : Prop := IsTup h a items ∧ ∃ o, h.get? a = some o ∧ o.dict = none
theorem IsTupN.new (h : Heap) (items : Array Value) : IsTupN (h.push { cls := .type "tuple", data := .seq items }) h.objs.size items := ⟨IsTup.new h items, _, Heap.get?_push_size _ rfl, rfl⟩
section
variable (P : Program) (w : World)
noncomputable def ObjOk (H : Hp) (h : Heap) (a : Addr) : HO → Prop
  | .lst xs => xs.length ≤ sizeLine ∧ ∃ (its : List Value) (n : Nat), Vals xs its ∧ h.get? a = some { cls := .type "list", data := .seq its.toArray n }
  | .tup xs => xs.length ≤ sizeLine ∧ ∃ its : List Value, Vals xs its ∧ IsTupN h a its.toArray
  | .dK kvs => kvs.length ≤ sizeLine ∧ (a == sysModules) = false ∧ ∃ vs, KV kvs vs ∧ h.DictOf (mixKind P w) a vs
  | .dT kvs => kvs.length ≤ sizeLine ∧ (a == sysModules) = false ∧ ∃ xs : List (List Key × Addr × Value),
      Paired (fun (p : List Key × V) (q : List Key × Addr × Value) => p.1 = q.1 ∧ H q.2.1 = some (.tup (p.1.map kV)) ∧ RelV p.2 q.2.2) kvs xs ∧
      ∃ o es ep, h.get? a = some o ∧ o.ExactDict ∧ o.data = .dict es ep ∧ es.toList = xs.map (entryOfKey (tupleKind (mixKind P w))) ∧ (xs.map (·.1)).Nodup
  | .set S n => h.SetOf (intKind P w) a S n
  | .ins C dx fs => H dx = some (.own a) ∧ fs.length ≤ 1000 ∧ dx ≠ a ∧ h.get? a = some (PySem.W.instObj C dx) ∧
      ∃ mA, h.Ns1 dx mA ∧ (∀ f, RelO (fs.lookup f) (mA f)) ∧ PySem.Within mA (fs.map (·.1))
  | .own _ => ∃ o, h.get? a = some o
  | .xd fs => ∃ mA, h.Ns1 a mA ∧ ∀ f, RelO (fs.lookup f) (mA f)
  | .rng lo hi => ∃ t u v, h.get? a = some { cls := .type "range", data := .fields #[.int lo t, .int hi u, .int 1 v] }
  | .frz o u => h.get? a = some o ∧ ObjOk H h a u
  | .tbl ps => h.get? a = some { cls := .none, data := .fields ps }
  | .met f x => h.get? a = some (PySem.W.methodObj (.ref f) (.ref x))
  | .ext φ => φ h ∧ (∃ o, h.get? a = some o) ∧ ∀ h1 h2 : Heap, φ h1 → (∀ o, h1.get? a = some o → h2.get? a = some o) → φ h2
noncomputable def HOk (H : Hp) (h : Heap) : Prop := ∀ a o, H a = some o → ObjOk P w H h a o
end
section
variable {P : Program} {w : World} {H H' : Hp} {h h' : Heap} {a : Addr} {o : HO}
theorem ObjOk.lt (x : ObjOk P w H h a o) : a < h.objs.size := by
  cases o with
  | lst xs => obtain ⟨_, _, _, _, e⟩ := x; exact Heap.lt_size e
  | tup xs => obtain ⟨_, _, _, p⟩ := x; exact p.1.lt
  | dK kvs => obtain ⟨_, _, _, _, o, _, _, e, _⟩ := x; exact Heap.lt_size e
  | dT kvs => obtain ⟨_, _, _, _, o, _, _, e, _⟩ := x; exact Heap.lt_size e
  | set S n => obtain ⟨o, _, _, _, e, _⟩ := x; exact Heap.lt_size e
  | ins C dx fs => obtain ⟨_, _, _, e, _⟩ := x; exact Heap.lt_size e
  | own y => obtain ⟨_, e⟩ := x; exact Heap.lt_size e
  | xd fs => obtain ⟨_, ⟨_, _, _, e, _⟩, _⟩ := x; exact Heap.lt_size e
  | rng lo hi => obtain ⟨_, _, _, e⟩ := x; exact Heap.lt_size e
  | frz ob u => obtain ⟨e, _⟩ := x; exact Heap.lt_size e
  | tbl ps => exact Heap.lt_size (show h.get? a = some _ from x)
  | met f y => exact Heap.lt_size (show h.get? a = some _ from x)
  | ext φ => obtain ⟨_, ⟨_, e⟩, _⟩ := x; exact Heap.lt_size e
theorem Paired.mapP {α β : Type} {F G : α → β → Prop} : ∀ {l₁ : List α} {l₂ : List β}, Paired F l₁ l₂ → (∀ a b, F a b → G a b) → Paired G l₁ l₂
  | _, _, .nil, _ => .nil
  | _, _, .cons r t, f => .cons (f _ _ r) (Paired.mapP t f)
theorem ObjOk.stay (x : ObjOk P w H h a o) (k : ∀ b u, (b = a ∨ H b = some (.own a)) → h.get? b = some u → h'.get? b = some u)
    (ho : ∀ b, H b = some (.own a) → H' b = some (.own a)) (ht : ∀ b xs, H b = some (.tup xs) → H' b = some (.tup xs)) : ObjOk P w H' h' a o := by
  induction o with
  | lst xs => obtain ⟨z, its, n, r, e⟩ := x; exact ⟨z, its, n, r, k _ _ (.inl rfl) e⟩
  | tup xs => obtain ⟨z, its, r, ⟨ob, e, c⟩, ob', e', d⟩ := x; exact ⟨z, its, r, ⟨ob, k _ _ (.inl rfl) e, c⟩, ob', k _ _ (.inl rfl) e', d⟩
  | dK kvs => obtain ⟨z, y, vs, r, ob, es, ep, e, c⟩ := x; exact ⟨z, y, vs, r, ob, es, ep, k _ _ (.inl rfl) e, c⟩
  | dT kvs =>
    obtain ⟨z, y, xs, r, ob, es, ep, e, c⟩ := x
    exact ⟨z, y, xs, Paired.mapP r fun p q z => ⟨z.1, ht _ _ z.2.1, z.2.2⟩, ob, es, ep, k _ _ (.inl rfl) e, c⟩
  | set S n => obtain ⟨ob, es, ep, t, e, c⟩ := x; exact ⟨ob, es, ep, t, k _ _ (.inl rfl) e, c⟩
  | ins C dx fs =>
    obtain ⟨d, z, ne, e, mA, ⟨od, es, ep, e2, c⟩, r⟩ := x
    exact ⟨ho _ d, z, ne, k _ _ (.inl rfl) e, mA, ⟨od, es, ep, k _ _ (.inr d) e2, c⟩, r⟩
  | own y => obtain ⟨ob, e⟩ := x; exact ⟨ob, k _ _ (.inl rfl) e⟩
  | xd fs => obtain ⟨mA, ⟨od, es, ep, e, c⟩, r⟩ := x; exact ⟨mA, ⟨od, es, ep, k _ _ (.inl rfl) e, c⟩, r⟩
  | rng lo hi => obtain ⟨t, u, v, e⟩ := x; exact ⟨t, u, v, k _ _ (.inl rfl) e⟩
  | frz ob u ih => obtain ⟨e, q⟩ := x; exact ⟨k _ _ (.inl rfl) e, ih q⟩
  | tbl ps =>
    have e : h.get? a = some { cls := .none, data := .fields ps } := x
    show h'.get? a = some { cls := .none, data := .fields ps }
    exact k a _ (.inl rfl) e
  | met f y =>
    have e : h.get? a = some (PySem.W.methodObj (.ref f) (.ref y)) := x
    show h'.get? a = some (PySem.W.methodObj (.ref f) (.ref y))
    exact k a _ (.inl rfl) e
  | ext φ => obtain ⟨p, ⟨o, e⟩, st⟩ := x; exact ⟨st _ _ p fun o q => k _ _ (.inl rfl) q, ⟨o, k _ _ (.inl rfl) e⟩, st⟩
theorem HOk.lt (x : HOk P w H h) (e : H a = some o) : a < h.objs.size := (x a o e).lt
theorem HOk.fresh (x : HOk P w H h) (e : h.objs.size ≤ a) : H a = none := by
  cases q : H a with
  | none => rfl
  | some u => exact absurd (Nat.lt_of_lt_of_le (x.lt q) e) (Nat.lt_irrefl _)
theorem HOk.kept (x : HOk P w H h) (k : ∀ b u, h.get? b = some u → h'.get? b = some u) : HOk P w H h' := fun a o e =>
  (x a o e).stay (fun b u _ q => k b u q) (fun _ q => q) fun _ _ q => q
theorem HOk.laid (x : HOk P w H h) (k : ∀ b u, h.get? b = some u → h'.get? b = some u) (hp : h.objs.size ≤ a) (new : ObjOk P w (upd H a o) h' a o) : HOk P w (upd H a o) h' := fun b u e => by
  have hn := x.fresh hp
  by_cases hb : b = a
  · subst hb; rw [upd_same] at e; cases e; exact new
  · rw [upd_ne hb] at e
    exact (x b u e).stay (fun c v _ q => k c v q) (fun c q => by rw [upd_ne (ne_of_none q hn)]; exact q) fun c xs q => by rw [upd_ne (ne_of_none q hn)]; exact q
end
noncomputable def Rd (H : Hp) (a : Addr) (u : HO) : Prop := H a = some u ∨ ∃ o, H a = some (.frz o u)
theorem Rd.ok {P : Program} {w : World} {H : Hp} {h : Heap} {a : Addr} {u : HO} (r : Rd H a u) (x : HOk P w H h) : ObjOk P w H h a u := by
  rcases r with r | ⟨o, r⟩
  · exact x a u r
  · obtain ⟨_, q⟩ := x a _ r
    exact q
noncomputable def Mut : Option HO → Prop
  | some (.lst _) => True
  | some (.dK _) => True
  | some (.dT _) => True
  | some (.set _ _) => True
  | some (.ins _ _ _) => True
  | some (.ext _) => True
  | _ => False
section
variable {P : Program} {w : World} {H : Hp} {h h' : Heap} {x e : Addr} {o' : HO}
theorem HOk.write (ok : HOk P w H h) (mu : Mut (H x)) (he : e = x ∨ H e = some (.own x)) (k : ∀ b u, b ≠ e → h.get? b = some u → h'.get? b = some u) (heo : ∃ u, h'.get? e = some u)
    (new : ObjOk P w (upd H x o') h' x o') : HOk P w (upd H x o') h' := fun b u q => by
  have nown : ∀ c y, H c = some (.own y) → c ≠ x := fun c y r z => by subst z; rw [r] at mu; exact mu
  have ntup : ∀ c xs, H c = some (.tup xs) → c ≠ x := fun c xs r z => by subst z; rw [r] at mu; exact mu
  by_cases hb : b = x
  · subst hb; rw [upd_same] at q; cases q; exact new
  · rw [upd_ne hb] at q
    by_cases hbe : b = e
    · have q' : H b = some (.own x) := by
        rcases he with z | z
        · exact absurd (hbe.trans z) hb
        · rw [hbe]; exact z
      rw [q] at q'; cases q'
      obtain ⟨v, hv⟩ := heo
      exact ⟨v, by rw [hbe]; exact hv⟩
    · refine (ok b u q).stay (fun c v hc r => k c v ?_ r) (fun c r => by rw [upd_ne (nown c b r)]; exact r) fun c xs r => by rw [upd_ne (ntup c xs r)]; exact r
      rcases hc with rfl | hc
      · exact hbe
      · rintro rfl
        rcases he with z | z
        · exact nown c b hc z
        · rw [hc] at z; cases z; exact hb rfl
end
structure Un (fs ex : List Addr) (H H' : Hp) (h h' : Heap) : Prop where
  keep : ∀ b o, h.get? b = some o → H b = none → b ∉ fs → b ∉ ex → h'.get? b = some o
  slot : ∀ b o, h.get? b = some o → H b = none → b ∈ fs → b ∉ ex → ∃ sl, h'.get? b = some { o with slots := sl }
  free : ∀ b o, h.get? b = some o → H b = none → b ∉ ex → H' b = none
  there : ∀ b o, h.get? b = some o → b ∉ ex → ∃ o', h'.get? b = some o'
  tups : ∀ b xs, H b = some (.tup xs) → H' b = some (.tup xs)
  frzs : ∀ b o u, H b = some (.frz o u) → H' b = some (.frz o u)
  tbls : ∀ b ps, H b = some (.tbl ps) → ∃ more, H' b = some (.tbl (ps ++ more))
section
variable {fs fs' ex ex' : List Addr} {H H1 H2 : Hp} {h h1 h2 h' : Heap} {a x e : Addr} {o : HO}
theorem Un.any (u : Un fs ex H H1 h h1) {b : Addr} {ob : Obj} (q : h.get? b = some ob) (n : H b = none) (hx : b ∉ ex) : ∃ sl, h1.get? b = some { ob with slots := sl } := by
  by_cases hb : b ∈ fs
  · exact u.slot b ob q n hb hx
  · exact ⟨ob.slots, u.keep b ob q n hb hx⟩
theorem Un.kept (k : ∀ b u, h.get? b = some u → h'.get? b = some u) : Un fs ex H H h h' :=
  ⟨fun b ob q _ _ _ => k b ob q, fun b ob q _ _ _ => ⟨ob.slots, k b ob q⟩, fun _ _ _ n _ => n, fun b ob q _ => ⟨ob, k b ob q⟩, fun _ _ q => q, fun _ _ _ q => q, fun _ ps q => ⟨#[], by rw [q]; simp⟩⟩
theorem Un.refl : Un fs ex H H h h := Un.kept fun _ _ q => q
theorem Un.laid (k : ∀ b u, h.get? b = some u → h'.get? b = some u) (hp : h.objs.size ≤ a) (hn : H a = none) : Un fs ex H (upd H a o) h h' where
  keep := fun b u q _ _ _ => k b u q
  slot := fun b u q _ _ _ => ⟨u.slots, k b u q⟩
  free := fun b u q n _ => by rw [upd_ne (Nat.ne_of_lt (Nat.lt_of_lt_of_le (Heap.lt_size q) hp))]; exact n
  there := fun b u q _ => ⟨u, k b u q⟩
  tups := fun b xs q => by rw [upd_ne (ne_of_none q hn)]; exact q
  frzs := fun b u xs q => by rw [upd_ne (ne_of_none q hn)]; exact q
  tbls := fun b ps q => ⟨#[], by rw [upd_ne (ne_of_none q hn), q]; simp⟩
theorem Un.write (mu : Mut (H x)) (he : e = x ∨ H e = some (.own x)) (k : ∀ b u, b ≠ e → h.get? b = some u → h'.get? b = some u) (heo : ∃ u, h'.get? e = some u) : Un fs ex H (upd H x o) h h' := by
  have hx : ∀ b, H b = none → b ≠ x := fun b n z => by subst z; rw [n] at mu; exact mu
  have hb : ∀ b, H b = none → b ≠ e := fun b n z => by
    subst z
    rcases he with r | r
    · exact hx b n r
    · rw [n] at r; cases r
  have hm : ∀ b u, H b = some u → ¬ Mut (some u) → b ≠ x := fun b u q nm z => by subst z; rw [q] at mu; exact nm mu
  refine ⟨fun b u q n _ _ => k b u (hb b n) q, fun b u q n _ _ => ⟨u.slots, k b u (hb b n) q⟩, fun b u q n _ => by rw [upd_ne (hx b n)]; exact n, fun b u q _ => ?_,
    fun b xs q => by rw [upd_ne (hm b _ q fun z => z)]; exact q, fun b u xs q => by rw [upd_ne (hm b _ q fun z => z)]; exact q, fun b ps q => ⟨#[], by rw [upd_ne (hm b _ q fun z => z), q]; simp⟩⟩
  by_cases hbe : b = e
  · subst hbe; exact heo
  · exact ⟨u, k b u hbe q⟩
end
noncomputable def trk (h : Heap) (H : Hp) : List Addr := (List.range h.objs.size).filter fun a => (H a).isSome
noncomputable def hidT (h : Heap) (H : Hp) : Heap := PySem.W.hideAll h (trk h H)
theorem hidT_size (h : Heap) (H : Hp) : (hidT h H).objs.size = h.objs.size := PySem.W.hideAll_size _ _
theorem hidT_get {h : Heap} {H : Hp} {b : Addr} {o : Obj} (e : h.get? b = some o) (n : H b = none) : (hidT h H).get? b = some o :=
  PySem.W.hideAll_get _ e fun hm => by
    have q : (H b).isSome = true := (List.mem_filter.mp hm).2
    rw [n] at q; simp at q
theorem of_hidT {h : Heap} {H : Hp} {b : Addr} {o : Obj} (e : (hidT h H).get? b = some o) : h.get? b = some o ∧ H b = none := by
  have e' : h.get? b = some o := PySem.W.of_hideAll (trk h H) e
  refine ⟨e', ?_⟩
  cases q : H b with
  | none => rfl
  | some x =>
    have hm : b ∈ trk h H := List.mem_filter.mpr ⟨List.mem_range.mpr (Heap.lt_size e'), by simp [q]⟩
    have z : (hidT h H).get? b = none := PySem.W.hideAll_none (trk h H) hm
    rw [z] at e; cases e
noncomputable def allNews (g h : Heap) (L : Addr) : List (Addr × Obj) := (List.range h.objs.size).filterMap fun a => if a = L ∨ (g.get? a).isSome = true then none else (h.get? a).map fun o => (a, o)
noncomputable def rest (g h : Heap) (L d : Addr) : List (Addr × Obj) := (allNews g h L).filter fun p => decide (p.1 ≠ d)
end L2
namespace L2
open PySem PySem.Spec PyProof.Rows
structure Mod (K : PySem.W.Frag) (mg : Str → Option Value) (base : Heap) : Prop where
  kin : K.In base
  glob : base.Ns mainGlobals mg
  blt : ∃ mb, base.Ns builtinsNs mb ∧ ∀ x : Str, x ≠ "__name__" → mb x = bootBuiltins x
  nolimit : base.NoLimit
structure Cx where
  prog : Program
  w : World
  K : PySem.W.Frag
  mg : Str → Option Value
  base : Heap
  A : Around
  N : List Str
  s₀ : Shared
  H₀ : Hp
  env : Env
  outer : List Env
  stack : List Env
  ex : List Addr
  fn : Str → Bool
  calm : Bool
  pn : List (Addr × Obj)
  xe : Value → Shared → Prop
noncomputable def frs (l : List Env) : List Addr := l.filterMap (·.frame)
noncomputable abbrev Cx.fs (X : Cx) : List Addr := frs X.outer
noncomputable def Vis (sc : Scope) (x : Str) : Prop := sc.names.lookup x = some .local ∨ sc.names.lookup x = some .cell ∨ sc.names.lookup x = some .free
noncomputable def Loc (sc : Scope) (x : Str) : Prop := sc.names.lookup x = some .local ∨ sc.names.lookup x = some .cell
noncomputable def Look (env : Env) (h : Heap) (m : Str → Option Value) (x : Str) (u : Value) : Prop :=
  (env.kindOf x = some .local ∧ m x = some u) ∨ ((env.kindOf x = some .cell ∨ env.kindOf x = some .free) ∧ ∃ c, env.cells.lookup x = some c ∧ h.IsCell c (some u))
structure Cx.Ok (X : Cx) : Prop where
  mod : Mod X.K X.mg X.base
  kind : X.env.scope.kind = .function
  glob : X.env.globals = mainGlobals
  blt : X.env.builtins = builtinsNs
  above : X.s₀.heap.objs.size ≤ X.env.locals
  inj : ∀ x y c, X.env.cells.lookup x = some c → X.env.cells.lookup y = some c → x = y
  has : ∀ x, (X.env.kindOf x = some .cell ∨ X.env.kindOf x = some .free) → ∃ c, X.env.cells.lookup x = some c
  cab : ∀ x c, X.fn x = true → X.env.cells.lookup x = some c → X.s₀.heap.objs.size ≤ c
  hd : X.calm = true → X.A.handled = none
  frames : X.A.frames = some X.stack
  stk : X.stack = X.outer ∨ (X.stack = X.env :: X.outer ∧ X.env.frame = some X.env.locals)
  exf : ∀ b ∈ X.ex, b ≠ X.env.locals ∧ ∀ x c, X.env.cells.lookup x = some c → c ≠ b
  bs : ∀ b o, X.base.get? b = some o → X.s₀.heap.get? b = some o ∧ X.H₀ b = none
  bsz : X.base.objs.size ≤ X.s₀.heap.objs.size
  noex : ∀ b o, X.base.get? b = some o → b ∉ X.ex
  exfs : ∀ b ∈ X.ex, b ∉ X.fs
  funs : X.s₀.heap.FunFrames X.base X.outer
  frf : ∀ b ∈ X.fs, X.H₀ b = none
structure Inv (X : Cx) (pins : List (Addr × Obj)) (σ : List (Option V)) (H : Hp) (s : Shared) : Prop where
  ok : X.Ok
  os : s.os = X.s₀.os
  bare : AllBare s.gens
  base : Un X.fs X.ex X.H₀ H X.s₀.heap s.heap
  loc : ∃ m, s.heap.Ns X.env.locals m ∧ ∀ (i : Nat) (x : Str) (v : V), X.N[i]? = some x → σ[i]? = some (some v) → Vis X.env.scope x → ∃ u, RelV v u ∧ Look X.env s.heap m x u
  cell : ∀ x c, X.env.cells.lookup x = some c → ∃ v, s.heap.IsCell c v
  free : H X.env.locals = none
  freeC : ∀ x c, X.env.cells.lookup x = some c → H c = none
  pin : ∀ p ∈ X.pn ++ pins, s.heap.get? p.1 = some p.2 ∧ H p.1 = none ∧ p.1 ≠ X.env.locals ∧ p.1 ∉ X.fs ∧ ∀ v, p.2.data ≠ .cell v
  hok : HOk X.prog X.w H s.heap
  len : σ.length = X.N.length
section
variable {X : Cx} {pins : List (Addr × Obj)} {σ : List (Option V)} {H H' : Hp} {s : Shared} {h' : Heap}
theorem Cx.Ok.nofr (ok : X.Ok) {b : Addr} {o : Obj} (e : X.base.get? b = some o) : b ∉ X.fs := fun hb => by
  have := (ok.funs.mem hb).1
  rw [e] at this; cases this
theorem Inv.bs (I : Inv X pins σ H s) : ∀ b o, X.base.get? b = some o → s.heap.get? b = some o ∧ H b = none := fun b o e =>
  ⟨I.base.keep b o (I.ok.bs b o e).1 (I.ok.bs b o e).2 (I.ok.nofr e) (I.ok.noex b o e), I.base.free b o (I.ok.bs b o e).1 (I.ok.bs b o e).2 (I.ok.noex b o e)⟩
theorem Inv.bk (I : Inv X pins σ H s) : ∀ b o, X.base.get? b = some o → s.heap.get? b = some o := fun b o e => (I.bs b o e).1
theorem Inv.mod (I : Inv X pins σ H s) : Mod X.K X.mg X.base := I.ok.mod
theorem Inv.kIn (I : Inv X pins σ H s) : X.K.In s.heap := I.ok.mod.kin.keeps I.bk
theorem Inv.lt (I : Inv X pins σ H s) : X.env.locals < s.heap.objs.size := let ⟨_, hn, _⟩ := I.loc; hn.lt
theorem Inv.sz (I : Inv X pins σ H s) : X.s₀.heap.objs.size ≤ s.heap.objs.size := Nat.le_trans I.ok.above (Nat.le_of_lt I.lt)
theorem Inv.nofs (I : Inv X pins σ H s) {a : Addr} (h : s.heap.objs.size ≤ a) : a ∉ X.fs := fun hb => by
  obtain ⟨_, o, ho, _⟩ := I.ok.funs.mem hb
  exact absurd (Nat.lt_of_lt_of_le (Heap.lt_size ho) (Nat.le_trans I.sz h)) (Nat.lt_irrefl _)
theorem Inv.cne (I : Inv X pins σ H s) : ∀ x c, X.env.cells.lookup x = some c → c ≠ X.env.locals := fun x c e z => by
  obtain ⟨v, o, ho, hd⟩ := I.cell x c e
  obtain ⟨m, ⟨o', es, ep, ho', hd', _⟩, _⟩ := I.loc
  rw [z, ho'] at ho; cases ho; rw [hd'] at hd; cases hd
theorem Inv.funs (I : Inv X pins σ H s) : s.heap.FunFrames X.base X.outer := by
  have all : ∀ (l : List Env), (∀ b ∈ frs l, b ∈ X.fs) → X.s₀.heap.FunFrames X.base l → s.heap.FunFrames X.base l := by
    intro l
    induction l with
    | nil => intro _ _; trivial
    | cons env r ih =>
      intro hs hl
      obtain ⟨hk, ⟨L, o, hf, hn, ho, hd⟩, hr⟩ := hl
      have hL : L ∈ X.fs := hs L (by unfold frs; rw [List.filterMap_cons, hf]; exact List.mem_cons_self)
      obtain ⟨sl, e⟩ := I.base.slot L o ho (I.ok.frf L hL) hL fun z => I.ok.exfs L z hL
      exact ⟨hk, ⟨L, _, hf, hn, e, hd⟩, ih (fun b hb => hs b (by unfold frs; rw [List.filterMap_cons, hf]; exact List.mem_cons_of_mem _ hb)) hr⟩
  exact all X.outer (fun _ hb => hb) I.ok.funs
theorem Inv.stack (I : Inv X pins σ H s) : s.heap.FunFrames X.base X.stack := by
  rcases I.ok.stk with e | ⟨e, hf⟩
  · rw [e]; exact I.funs
  · rw [e]
    obtain ⟨m, hn, _⟩ := I.loc
    refine .cons (by rw [I.ok.kind]; decide) hf hn ?_ I.funs
    exact Heap.get?_none_of_le (Nat.le_trans I.ok.bsz I.ok.above)
theorem Inv.stkSub (I : Inv X pins σ H s) : ∀ b ∈ frs X.stack, b ∈ X.env.locals :: X.fs := fun b hb => by
  rcases I.ok.stk with e | ⟨e, hf⟩
  · rw [e] at hb; exact List.mem_cons_of_mem _ hb
  · rw [e] at hb
    unfold frs at hb
    rw [List.filterMap_cons, hf] at hb
    exact hb
theorem Inv.stkFree (I : Inv X pins σ H s) : ∀ b ∈ frs X.stack, H b = none := fun b hb => by
  rcases List.mem_cons.mp (I.stkSub b hb) with e | hb
  · rw [e]; exact I.free
  · obtain ⟨_, o, ho, _⟩ := I.ok.funs.mem hb
    exact I.base.free b o ho (I.ok.frf b hb) fun z => I.ok.exfs b z hb
theorem Inv.step {g' : Array GenState} {t' : Nat} {d' : Drawn} {ch : List Addr} (I : Inv X pins σ H s)
    (hch : ∀ b ∈ ch, (b ∈ X.ex ∨ X.s₀.heap.objs.size ≤ b) ∧ b ≠ X.env.locals ∧ (∀ x c, X.env.cells.lookup x = some c → c ≠ b) ∧ ∀ p ∈ X.pn ++ pins, p.1 ≠ b)
    (keep : ∀ b o, b ≠ X.env.locals → b ∉ X.fs → b ∉ ch → s.heap.get? b = some o → H b = none → h'.get? b = some o)
    (slot : ∀ b o, b ≠ X.env.locals → b ∈ X.fs → b ∉ ch → s.heap.get? b = some o → H b = none → ∃ sl, h'.get? b = some { o with slots := sl }) (free : ∀ b o, b ∉ ch → s.heap.get? b = some o → H b = none → H' b = none)
    (there : ∀ b o, b ∉ ch → s.heap.get? b = some o → ∃ o', h'.get? b = some o')
    (tups : ∀ b xs, H b = some (.tup xs) → H' b = some (.tup xs)) (frzs : ∀ b o u, H b = some (.frz o u) → H' b = some (.frz o u)) (tbls : ∀ b ps, H b = some (.tbl ps) → ∃ more, H' b = some (.tbl (ps ++ more)))
    (ns : ∀ m, s.heap.Ns X.env.locals m → h'.Ns X.env.locals m) (hok : HOk X.prog X.w H' h') (hg : AllBare g') :
    Inv X pins σ H' { s with heap := h', gens := g', drawn := d', toks := t' } := by
  have neL : ∀ b o, X.s₀.heap.get? b = some o → b ≠ X.env.locals := fun b o e => Nat.ne_of_lt (Nat.lt_of_lt_of_le (Heap.lt_size e) I.ok.above)
  have neC : ∀ b o, X.s₀.heap.get? b = some o → b ∉ X.ex → b ∉ ch := fun b o e hx hb => by
    rcases (hch b hb).1 with z | z
    · exact hx z
    · exact absurd (Nat.lt_of_lt_of_le (Heap.lt_size e) z) (Nat.lt_irrefl _)
  have cellK : ∀ x c, X.env.cells.lookup x = some c → ∀ v, s.heap.IsCell c v → h'.IsCell c v := fun x c e v ⟨o, ho, hd⟩ => by
    have nch : c ∉ ch := fun z => (hch c z).2.2.1 x c e rfl
    by_cases hc : c ∈ X.fs
    · obtain ⟨sl, q⟩ := slot c o (I.cne x c e) hc nch ho (I.freeC x c e)
      exact ⟨_, q, hd⟩
    · exact ⟨o, keep c o (I.cne x c e) hc nch ho (I.freeC x c e), hd⟩
  refine ⟨I.ok, I.os, hg, ⟨fun b o e n hb hx => ?_, fun b o e n hb hx => ?_, fun b o e n hx => ?_, fun b o e hx => ?_, fun b xs e => tups b xs (I.base.tups b xs e), fun b o xs e => frzs b o xs (I.base.frzs b o xs e), fun b ps e => ?_⟩, ?_, fun x c e => ?_, ?_, fun x c e => ?_, fun p hp => ?_, hok, I.len⟩
  · exact keep b o (neL b o e) hb (neC b o e hx) (I.base.keep b o e n hb hx) (I.base.free b o e n hx)
  · obtain ⟨sl, e1⟩ := I.base.slot b o e n hb hx
    obtain ⟨sl', e2⟩ := slot b _ (neL b o e) hb (neC b o e hx) e1 (I.base.free b o e n hx)
    exact ⟨sl', e2⟩
  · obtain ⟨o', e1⟩ := I.base.there b o e hx
    exact free b o' (neC b o e hx) e1 (I.base.free b o e n hx)
  · obtain ⟨o', e1⟩ := I.base.there b o e hx
    exact there b o' (neC b o e hx) e1
  · obtain ⟨m1, e1⟩ := I.base.tbls b ps e
    obtain ⟨m2, e2⟩ := tbls b _ e1
    exact ⟨m1 ++ m2, by rw [e2, Array.append_assoc]⟩
  · obtain ⟨m, hn, hl⟩ := I.loc
    refine ⟨m, ns m hn, fun i x v e1 e2 e3 => ?_⟩
    obtain ⟨u, r, l⟩ := hl i x v e1 e2 e3
    refine ⟨u, r, ?_⟩
    rcases l with l | ⟨k, c, e, z⟩
    · exact .inl l
    · exact .inr ⟨k, c, e, cellK x c e _ z⟩
  · obtain ⟨v, z⟩ := I.cell x c e
    exact ⟨v, cellK x c e v z⟩
  · obtain ⟨m, ⟨o, _, _, ho, _⟩, _⟩ := I.loc
    exact free _ o (fun z => (hch _ z).2.1 rfl) ho I.free
  · obtain ⟨v, o, ho, hd⟩ := I.cell x c e
    exact free c o (fun z => (hch c z).2.2.1 x c e rfl) ho (I.freeC x c e)
  · obtain ⟨e, n, ne, nf, d⟩ := I.pin p hp
    have nch : p.1 ∉ ch := fun z => (hch p.1 z).2.2.2 p hp rfl
    exact ⟨keep p.1 p.2 ne nf nch e n, free p.1 p.2 nch e n, ne, nf, d⟩
theorem Inv.un {t' : Nat} (I : Inv X pins σ H s) (u : Un X.fs [] H H' s.heap h') (hok : HOk X.prog X.w H' h') : Inv X pins σ H' { s with heap := h', toks := t' } := by
  obtain ⟨m, ⟨o, es, ep, ho, r⟩, _⟩ := id I.loc
  obtain ⟨sl, hL⟩ := u.any ho I.free (by simp)
  exact I.step (g' := s.gens) (d' := s.drawn) (ch := []) (fun _ z => nomatch z) (fun b o _ hb _ e n => u.keep b o e n hb (by simp)) (fun b o _ hb _ e n => u.slot b o e n hb (by simp)) (fun b o _ e n => u.free b o e n (by simp)) (fun b o _ e => u.there b o e (by simp)) u.tups u.frzs u.tbls (fun m' hm => by
    obtain ⟨o', es', ep', ho', r'⟩ := hm
    rw [ho] at ho'; cases ho'
    exact ⟨_, es', ep', hL, r'⟩) hok I.bare
theorem Inv.call {g' : Array GenState} {t' : Nat} {d' : Drawn} {ch : List Addr} (I : Inv X pins σ H s) (u : Un (frs X.stack) ch H H' s.heap h') (hok : HOk X.prog X.w H' h') (hg : AllBare g')
    (hch : ∀ b ∈ ch, (b ∈ X.ex ∨ X.s₀.heap.objs.size ≤ b) ∧ b ≠ X.env.locals ∧ (∀ x c, X.env.cells.lookup x = some c → c ≠ b) ∧ ∀ p ∈ X.pn ++ pins, p.1 ≠ b) :
    Inv X pins σ H' { s with heap := h', gens := g', drawn := d', toks := t' } := by
  obtain ⟨m, ⟨o, es, ep, ho, r⟩, _⟩ := id I.loc
  obtain ⟨sl, hL⟩ := u.any ho I.free fun z => (hch _ z).2.1 rfl
  exact I.step (ch := ch) hch (fun b o hL hb hc e n => u.keep b o e n (fun z => (List.mem_cons.mp (I.stkSub b z)).elim hL hb) hc) (fun b o _ _ hc e n => u.any e n hc) (fun b o hc e n => u.free b o e n hc) (fun b o hc e => u.there b o e hc) u.tups u.frzs u.tbls (fun m' hm => by
    obtain ⟨o', es', ep', ho', r'⟩ := hm
    rw [ho] at ho'; cases ho'
    exact ⟨_, es', ep', hL, r'⟩) hok hg
theorem Inv.turned {t' : Nat} {it : Addr} (I : Inv X pins σ H s) (k : ∀ b o, b ≠ it → s.heap.get? b = some o → h'.get? b = some o) (hn : H it = none) (hL : it ≠ X.env.locals)
    (h1 : it ∈ X.ex ∨ X.s₀.heap.objs.size ≤ it) (h2 : ∀ x c, X.env.cells.lookup x = some c → c ≠ it) (h3 : ∀ p ∈ X.pn ++ pins, p.1 ≠ it) : Inv X pins σ H { s with heap := h', toks := t' } := by
  have nit : ∀ b u, H b = some u → b ≠ it := fun b u e z => by rw [z, hn] at e; cases e
  refine I.step (g' := s.gens) (d' := s.drawn) (ch := [it]) (fun b hb => ?_) (fun b o _ _ hc e _ => k b o (fun z => hc (by simp [z])) e) (fun b o _ _ hc e _ => ⟨o.slots, k b o (fun z => hc (by simp [z])) e⟩) (fun _ _ _ _ n => n)
    (fun b o hc e => ⟨o, k b o (fun z => hc (by simp [z])) e⟩) (fun _ _ e => e) (fun _ _ _ e => e) (fun b ps e => ⟨#[], by rw [e]; simp⟩) (fun m hm => ?_) (fun b u e => ?_) I.bare
  · have e : b = it := by simpa using hb
    subst e
    exact ⟨h1, hL, h2, h3⟩
  · obtain ⟨o, es, ep, ho, r⟩ := hm
    exact ⟨o, es, ep, k _ o (Ne.symm hL) ho, r⟩
  · refine (I.hok b u e).stay (fun c v hc q => k c v ?_ q) (fun _ q => q) fun _ _ q => q
    rcases hc with z | z
    · rw [z]; exact nit b u e
    · exact nit c _ z
theorem Inv.tok (I : Inv X pins σ H s) (t : Nat) : Inv X pins σ H { s with toks := t } := I.un (h' := s.heap) (t' := t) Un.refl I.hok
theorem Inv.kept {t' : Nat} (I : Inv X pins σ H s) (k : ∀ b u, s.heap.get? b = some u → h'.get? b = some u) : Inv X pins σ H { s with heap := h', toks := t' } := I.un (Un.kept k) (I.hok.kept k)
theorem Inv.laid {a : Addr} {o : HO} {t' : Nat} (I : Inv X pins σ H s) (k : ∀ b u, s.heap.get? b = some u → h'.get? b = some u) (hp : s.heap.objs.size ≤ a) (new : ObjOk X.prog X.w (upd H a o) h' a o) :
    Inv X pins σ (upd H a o) { s with heap := h', toks := t' } := I.un (Un.laid k hp (I.hok.fresh hp)) (I.hok.laid k hp new)
theorem Inv.write {x e : Addr} {o : HO} {t' : Nat} (I : Inv X pins σ H s) (mu : Mut (H x)) (he : e = x ∨ H e = some (.own x)) (k : ∀ b u, b ≠ e → s.heap.get? b = some u → h'.get? b = some u) (heo : ∃ u, h'.get? e = some u)
    (new : ObjOk X.prog X.w (upd H x o) h' x o) : Inv X pins σ (upd H x o) { s with heap := h', toks := t' } := I.un (Un.write mu he k heo) (I.hok.write mu he k heo new)
theorem Inv.pins_of {pins' : List (Addr × Obj)} (I : Inv X pins σ H s) (h : ∀ p ∈ pins', s.heap.get? p.1 = some p.2 ∧ H p.1 = none ∧ p.1 ≠ X.env.locals ∧ p.1 ∉ X.fs ∧ ∀ v, p.2.data ≠ .cell v) : Inv X pins' σ H s :=
  ⟨I.ok, I.os, I.bare, I.base, I.loc, I.cell, I.free, I.freeC, fun p hp => (List.mem_append.mp hp).elim (fun z => I.pin p (List.mem_append_left _ z)) (h p), I.hok, I.len⟩
theorem nodup_ix {N : List Str} (hN : N.Nodup) {i j : Nat} {x : Str} (a : N[i]? = some x) (b : N[j]? = some x) : i = j := by
  obtain ⟨h1, e1⟩ := List.getElem?_eq_some_iff.mp a
  obtain ⟨h2, e2⟩ := List.getElem?_eq_some_iff.mp b
  exact (List.getElem_inj hN).mp (e1.trans e2.symm)
theorem store_ok2 {M : Model} {A : Around} {E : Value → Shared → Prop} {i : Nat} {x : Str} {v : V} {u : Value} {Q : Unit → Shared → Prop} (I : Inv X pins σ H s) (hN : X.N.Nodup) (hi : X.N[i]? = some x) (hx : Loc X.env.scope x) (r : RelV v u)
    (h : ∀ s', Inv X pins (σ.set i (some v)) H s' → (∃ a, Heap.SameBut a s.heap s'.heap ∧ (a = X.env.locals ∨ X.env.cells.lookup x = some a)) → Q () s') (hf : X.fn x = true ∨ X.env.scope.names.lookup x = some .local := by first | exact .inl rfl | exact .inr rfl | assumption) : wpAny M A (storeName X.env x u) Q E s := by
  obtain ⟨m, hn, hl⟩ := id I.loc
  have hcls : (X.env.scope.kind == .class || (X.env.scope.kind == .module && X.env.locals != X.env.globals)) = false := by rw [I.ok.kind]; rfl
  have hiσ : i < σ.length := by rw [I.len]; exact (List.getElem?_eq_some_iff.mp hi).1
  have cne := I.cne
  have tracked : ∀ {a : Addr} {h' : Heap}, (∃ o, s.heap.get? a = some o ∧ H a = none) → Heap.SameBut a s.heap h' → HOk X.prog X.w H h' := fun {a h'} ha hs b ob e => by
    obtain ⟨_, _, hfree⟩ := ha
    refine (I.hok b ob e).stay (fun c w' hc q => (hs.2 c ?_).trans q) (fun _ q => q) fun _ _ q => q
    rintro rfl
    rcases hc with rfl | hc
    · rw [hfree] at e; cases e
    · rw [hfree] at hc; cases hc
  rcases hx with hk | hk
  · refine wpAny_storeName_local hk hn (fun h' hn' hs => ?_) hcls
    obtain ⟨oL, _, _, hoL, _⟩ := id hn
    refine h _ ⟨I.ok, I.os, I.bare, ⟨fun b o e n hb hx => ?_, fun b o e n hb hx => ?_, I.base.free, fun b o e hx => ?_, I.base.tups, I.base.frzs, I.base.tbls⟩, ⟨_, hn', fun j y v' e1 e2 e3 => ?_⟩, fun y c e => ?_, I.free, I.freeC, fun p hp => ?_, tracked ⟨oL, hoL, I.free⟩ hs, by simpa using I.len⟩ ⟨_, hs, .inl rfl⟩
    · exact (hs.2 b (Nat.ne_of_lt (Nat.lt_of_lt_of_le (Heap.lt_size e) I.ok.above))).trans (I.base.keep b o e n hb hx)
    · obtain ⟨sl, e1⟩ := I.base.slot b o e n hb hx
      exact ⟨sl, (hs.2 b (Nat.ne_of_lt (Nat.lt_of_lt_of_le (Heap.lt_size e) I.ok.above))).trans e1⟩
    · obtain ⟨o', e1⟩ := I.base.there b o e hx
      exact ⟨o', (hs.2 b (Nat.ne_of_lt (Nat.lt_of_lt_of_le (Heap.lt_size e) I.ok.above))).trans e1⟩
    · by_cases hj : j = i
      · subst hj
        rw [hi] at e1; cases e1
        rw [List.getElem?_set_self hiσ] at e2
        cases e2
        exact ⟨u, r, .inl ⟨hk, by simp⟩⟩
      · rw [List.getElem?_set_ne (Ne.symm hj)] at e2
        obtain ⟨u', r', q⟩ := hl j y v' e1 e2 e3
        refine ⟨u', r', ?_⟩
        rcases q with ⟨k, e⟩ | ⟨k, c, e, z⟩
        · refine .inl ⟨k, ?_⟩
          have : y ≠ x := fun e => hj (nodup_ix hN e1 (e ▸ hi))
          simp [this, e]
        · exact .inr ⟨k, c, e, z.sameBut hs (cne y c e)⟩
    · obtain ⟨w', z⟩ := I.cell y c e
      exact ⟨w', z.sameBut hs (cne y c e)⟩
    · obtain ⟨e, n, ne, nf, d⟩ := I.pin p hp
      exact ⟨(hs.2 p.1 ne).trans e, n, ne, nf, d⟩
  · have hfn : X.fn x = true := by
      rcases hf with z | z
      · exact z
      · rw [z] at hk; cases hk
    obtain ⟨c, hc⟩ := I.ok.has x (.inl hk)
    obtain ⟨w', z⟩ := I.cell x c hc
    refine wpAny_storeName_cell I.ok.kind hk hc z (fun h' hc' hs => ?_)
    obtain ⟨oc, hoc, hocd⟩ := id z
    refine h { s with heap := h' } ⟨I.ok, I.os, I.bare, ⟨fun b o e n hb hx => ?_, fun b o e n hb hx => ?_, I.base.free, fun b o e hx => ?_, I.base.tups, I.base.frzs, I.base.tbls⟩, ⟨m, hn.sameBut hs (Ne.symm (cne x c hc)), fun j y v' e1 e2 e3 => ?_⟩, fun y c' e => ?_, I.free, I.freeC, fun p hp => ?_, tracked ⟨oc, hoc, I.freeC x c hc⟩ hs, by simpa using I.len⟩ ⟨c, hs, .inr hc⟩
    · exact (hs.2 b (Nat.ne_of_lt (Nat.lt_of_lt_of_le (Heap.lt_size e) (I.ok.cab x c hfn hc)))).trans (I.base.keep b o e n hb hx)
    · obtain ⟨sl, e1⟩ := I.base.slot b o e n hb hx
      exact ⟨sl, (hs.2 b (Nat.ne_of_lt (Nat.lt_of_lt_of_le (Heap.lt_size e) (I.ok.cab x c hfn hc)))).trans e1⟩
    · obtain ⟨o', e1⟩ := I.base.there b o e hx
      exact ⟨o', (hs.2 b (Nat.ne_of_lt (Nat.lt_of_lt_of_le (Heap.lt_size e) (I.ok.cab x c hfn hc)))).trans e1⟩
    · by_cases hj : j = i
      · subst hj
        rw [hi] at e1; cases e1
        rw [List.getElem?_set_self hiσ] at e2
        cases e2
        exact ⟨u, r, .inr ⟨.inl hk, c, hc, hc'⟩⟩
      · rw [List.getElem?_set_ne (Ne.symm hj)] at e2
        obtain ⟨u', r', q⟩ := hl j y v' e1 e2 e3
        refine ⟨u', r', ?_⟩
        rcases q with q | ⟨k, c', e, z'⟩
        · exact .inl q
        · refine .inr ⟨k, c', e, z'.sameBut hs ?_⟩
          rintro rfl
          exact hj (nodup_ix hN e1 (I.ok.inj _ _ _ e hc ▸ hi))
    · by_cases hcc : c' = c
      · subst hcc; exact ⟨_, hc'⟩
      · obtain ⟨w2, z2⟩ := I.cell y c' e
        exact ⟨w2, z2.sameBut hs hcc⟩
    · obtain ⟨e, n, ne, nf, d⟩ := I.pin p hp
      refine ⟨(hs.2 p.1 ?_).trans e, n, ne, nf, d⟩
      intro q
      rw [q, hoc] at e
      have q' : oc = p.2 := Option.some.inj e
      exact d w' (by rw [← q']; exact hocd)
theorem store_ok {M : Model} {A : Around} {E : Value → Shared → Prop} {i : Nat} {x : Str} {v : V} {u : Value} {Q : Unit → Shared → Prop} (I : Inv X pins σ H s) (hN : X.N.Nodup) (hi : X.N[i]? = some x) (hx : Loc X.env.scope x) (r : RelV v u)
    (h : ∀ s', Inv X pins (σ.set i (some v)) H s' → Q () s') (hf : X.fn x = true ∨ X.env.scope.names.lookup x = some .local := by first | exact .inl rfl | exact .inr rfl | assumption) : wpAny M A (storeName X.env x u) Q E s :=
  store_ok2 I hN hi hx r (fun s' I' _ => h s' I') hf
end
noncomputable abbrev XK := Value → Option Addr → Hp → Prop
noncomputable abbrev St := List (Option V)
noncomputable abbrev VK := V → Hp → Prop
noncomputable abbrev TE := St → Hp → VK → Prop
noncomputable abbrev TT := St → Hp → (Bool → Hp → Prop) → Prop
noncomputable abbrev TA := St → Hp → (List V → Hp → Prop) → Prop
structure Ends where
  nx : St → Hp → Prop
  rt : VK
  bk : St → Hp → Prop := fun _ _ => False
  ct : St → Hp → Prop := fun _ _ => False
noncomputable abbrev TS := Ends → St → Hp → Prop
noncomputable def EP (X : Cx) (pins : List (Addr × Obj)) (σ : St) (Q : VK) (u : Value) (s' : Shared) : Prop := ∃ v H', Inv X pins σ H' s' ∧ RelV v u ∧ Q v H'
noncomputable def TP (X : Cx) (pins : List (Addr × Obj)) (σ : St) (Q : Bool → Hp → Prop) (b : Bool) (s' : Shared) : Prop := ∃ H', Inv X pins σ H' s' ∧ Q b H'
noncomputable def AP (X : Cx) (pins : List (Addr × Obj)) (σ : St) (Q : List V → Hp → Prop) (us : List Value) (s' : Shared) : Prop := ∃ vs H', Inv X pins σ H' s' ∧ Vals vs us ∧ Q vs H'
noncomputable def SP (X : Cx) (pins : List (Addr × Obj)) (D : Ends) (f : Flow) (s' : Shared) : Prop :=
  match f with
  | .next => ∃ σ' H', Inv X pins σ' H' s' ∧ D.nx σ' H'
  | .brk => ∃ σ' H', Inv X pins σ' H' s' ∧ D.bk σ' H'
  | .cont => ∃ σ' H', Inv X pins σ' H' s' ∧ D.ct σ' H'
  | .ret u => ∃ v σ' H', Inv X pins σ' H' s' ∧ RelV v u ∧ D.rt v H'
noncomputable def PE (X : Cx) (e : Expr) (t : TE) : Prop :=
  ∀ (pins : List (Addr × Obj)) (s : Shared) (σ : St) (H : Hp) (Q : VK), Inv X pins σ H s → t σ H Q → wpAny (model X.prog X.w) X.A (eval e X.env) (EP X pins σ Q) X.xe s
noncomputable def PT (X : Cx) (e : Expr) (t : TT) : Prop :=
  ∀ (pins : List (Addr × Obj)) (s : Shared) (σ : St) (H : Hp) (Q : Bool → Hp → Prop), Inv X pins σ H s → t σ H Q → wpAny (model X.prog X.w) X.A (isTrue e X.env (eval e X.env)) (TP X pins σ Q) X.xe s
noncomputable def PW (X : Cx) (e : Expr) (t : TT) : Prop :=
  ∀ (whole : Sem Value) (pins : List (Addr × Obj)) (s : Shared) (σ : St) (H : Hp) (Q : Bool → Hp → Prop), Inv X pins σ H s → t σ H Q → wpAny (model X.prog X.w) X.A (isTrue e X.env whole) (TP X pins σ Q) X.xe s
theorem PW.pt {X : Cx} {e : Expr} {t : TT} (h : PW X e t) : PT X e t := h _
noncomputable def PA (X : Cx) (es : List Expr) (t : TA) : Prop :=
  ∀ (pos : Pos) (pins : List (Addr × Obj)) (s : Shared) (σ : St) (H : Hp) (Q : List V → Hp → Prop), Inv X pins σ H s → t σ H Q → wpAny (model X.prog X.w) X.A (spliced (backTo pos (starEach es X.env))) (AP X pins σ Q) X.xe s
noncomputable def PS (X : Cx) (st : Stmt) (t : TS) : Prop :=
  ∀ (pins : List (Addr × Obj)) (s : Shared) (σ : St) (H : Hp) (D : Ends), Inv X pins σ H s → t D σ H → wpAny (model X.prog X.w) X.A (exec st X.env) (SP X pins D) X.xe s
noncomputable def PSs (X : Cx) (st : List Stmt) (t : TS) : Prop :=
  ∀ (pins : List (Addr × Obj)) (s : Shared) (σ : St) (H : Hp) (D : Ends), Inv X pins σ H s → t D σ H → wpAny (model X.prog X.w) X.A (execs st X.env) (SP X pins D) X.xe s
theorem thn {α : Type} {t : Sem α} {Q Q' : α → Shared → Prop} {M : Model} {A : Around} {E : Value → Shared → Prop} {s : Shared} (h : wpAny M A t Q E s) (hQ : ∀ a s, Q a s → Q' a s) : wpAny M A t Q' E s := wpAny_mono h hQ fun _ _ x => x
end L2
namespace L2
open PySem PySem.Spec PyProof.Rows
section
variable {X : Cx}
theorem bin {a b : Expr} {ta tb : TE} (ha : PE X a ta) (hb : PE X b tb) {pins : List (Addr × Obj)} {s : Shared} {σ : St} {H : Hp} {R : V → V → Hp → Prop} (I : Inv X pins σ H s) (h : ta σ H fun x H1 => tb σ H1 fun y H2 => R x y H2)
    {α : Type} {Q : α → Shared → Prop} {f : Value → Value → Sem α}
    (hf : ∀ v u s2 x y H2, Inv X pins σ H2 s2 → RelV x v → RelV y u → R x y H2 → wpAny (model X.prog X.w) X.A (f v u) Q X.xe s2) :
    wpAny (model X.prog X.w) X.A (eval a X.env) (fun v s₁ => wpAny (model X.prog X.w) X.A (eval b X.env) (fun u s₂ => wpAny (model X.prog X.w) X.A (f v u) Q X.xe s₂) X.xe s₁) X.xe s := by
  refine thn (ha pins s σ H _ I h) fun v s1 ⟨x, H1, I1, r1, q1⟩ => ?_
  refine thn (hb pins s1 σ H1 _ I1 q1) fun u s2 ⟨y, H2, I2, r2, q2⟩ => ?_
  exact hf v u s2 x y H2 I2 r1 r2 q2
noncomputable def tVar (i : Nat) : TE := fun σ H Q => ∃ v, σ[i]? = some (some v) ∧ Q v H
noncomputable def tC (v : V) : TE := fun _ H Q => Q v H
theorem pe_var {i : Nat} {x : Str} {pos : Pos} (hN : X.N[i]? = some x) (hv : Vis X.env.scope x) (hd : (x == ("__debug__" : Str)) = false := by decide) (hcd : (x == ("__classdict__" : Str)) = false := by decide) : PE X (.Name x pos) (tVar i) := by
  intro pins s σ H Q I h
  obtain ⟨v, e, h⟩ := h
  obtain ⟨m, hn, hl⟩ := I.loc
  obtain ⟨u, r, l⟩ := hl i x v hN e hv
  have fin : EP X pins σ Q u s := ⟨v, H, I, r, h⟩
  rcases l with ⟨hk, hm⟩ | ⟨hk, c, hc, hcell⟩
  · exact wpAny_Name (wpAny_loadName_local I.ok.kind hk hn hm fin) hd
  · rcases hk with hk | hk
    · exact wpAny_Name (wpAny_loadName_cell I.ok.kind hk hc hcell fin) hd
    · exact wpAny_Name (wpAny_loadName_free I.ok.kind hk hc hcell fin hcd) hd
theorem pe_int {i j pos} : PE X (.Constant (.int i) j pos) (tC (.int i)) := fun _ _ _ H _ I h => wpAny_Constant_int ⟨.int i, H, I.tok _, ⟨_, rfl⟩, h⟩
theorem pe_bl {b j pos} : PE X (.Constant (.bool b) j pos) (tC (.bl b)) := fun _ _ _ H _ I h => Constant_bool ⟨.bl b, H, I, rfl, h⟩
theorem pe_non {j pos} : PE X (.Constant .none j pos) (tC .non) := fun _ _ _ H _ I h => Constant_none ⟨.non, H, I, rfl, h⟩
theorem pe_str {x j pos} : PE X (.Constant (.str x) j pos) (tC (.str x)) := fun _ _ _ H _ I h => Calls.Constant_str ⟨.str x, H, I.tok _, ⟨_, rfl⟩, h⟩
noncomputable def Gl (X : Cx) (x : Str) : Prop := X.env.kindOf x = some .globalImplicit
theorem ld_glob {E : Value → Shared → Prop} {pins : List (Addr × Obj)} {s : Shared} {σ : St} {H : Hp} {x : Str} {u : Value} {pos : Pos} {Q : Value → Shared → Prop} (I : Inv X pins σ H s) (hg : Gl X x) (hm : X.mg x = some u) (h : Q u s)
    (hd : (x == ("__debug__" : Str)) = false := by decide) : wpAny (model X.prog X.w) X.A (eval (.Name x pos) X.env) Q E s :=
  Calls.Name_function_global I.ok.kind hg (Calls.loadGlobal_global (by rw [I.ok.glob]; exact I.mod.glob.keeps I.bk) hm h) hd
theorem ld_blt {E : Value → Shared → Prop} {pins : List (Addr × Obj)} {s : Shared} {σ : St} {H : Hp} {x : Str} {u : Value} {pos : Pos} {Q : Value → Shared → Prop} (I : Inv X pins σ H s) (hg : Gl X x) (hm : X.mg x = none) (hv : bootBuiltins x = some u) (h : Q u s)
    (hn : x ≠ "__name__" := by decide) (hd : (x == ("__debug__" : Str)) = false := by decide) : wpAny (model X.prog X.w) X.A (eval (.Name x pos) X.env) Q E s := by
  obtain ⟨mb, h1, h2⟩ := I.mod.blt
  exact Calls.Name_function_global I.ok.kind hg (Calls.loadGlobal_builtin (by rw [I.ok.glob]; exact I.mod.glob.keeps I.bk) hm (by rw [I.ok.blt]; exact h1.keeps I.bk) ((h2 x hn).trans hv) h) hd
theorem pe_glob {x : Str} {v : V} {u : Value} {pos : Pos} (hg : Gl X x) (hm : X.mg x = some u) (r : RelV v u) (hd : (x == ("__debug__" : Str)) = false := by decide) : PE X (.Name x pos) (tC v) :=
  fun _ _ _ H _ I h => ld_glob I hg hm ⟨v, H, I, r, h⟩ hd
theorem pe_bltn {x : Str} {v : V} {u : Value} {pos : Pos} (hg : Gl X x) (hm : X.mg x = none) (hv : bootBuiltins x = some u) (r : RelV v u) (hn : x ≠ "__name__" := by decide) (hd : (x == ("__debug__" : Str)) = false := by decide) : PE X (.Name x pos) (tC v) :=
  fun _ _ _ H _ I h => ld_blt I hg hm hv ⟨v, H, I, r, h⟩ hn hd
variable {a b : Expr} {ta tb : TE} {pos : Pos}
variable {tA tB' : TT} {rest : List Expr}
noncomputable def tAnd (t u : TT) : TT := fun σ H Q => t σ H fun c H1 => if c = true then u σ H1 Q else Q false H1
noncomputable def tOr (t u : TT) : TT := fun σ H Q => t σ H fun c H1 => if c = true then Q true H1 else u σ H1 Q
noncomputable def tNot (t : TT) : TT := fun σ H Q => t σ H fun c H1 => Q (!c) H1
theorem pw_and1 (ha : PT X a tA) : PW X (.BoolOp .And [a] pos) tA := by
  intro wh pins s σ H Q I h
  refine isTrue_and (thn (ha pins s σ H Q I h) fun c s1 e => ?_)
  cases c with
  | true => exact isTrue_and_nil e
  | false => exact e
theorem pw_or1 (ha : PT X a tA) : PW X (.BoolOp .Or [a] pos) tA := by
  intro wh pins s σ H Q I h
  refine isTrue_or (thn (ha pins s σ H Q I h) fun c s1 e => ?_)
  cases c with
  | false => exact isTrue_or_nil e
  | true => exact e
theorem pw_and (ha : PT X a tA) (hb : PW X (.BoolOp .And (b :: rest) pos) tB') : PW X (.BoolOp .And (a :: b :: rest) pos) (tAnd tA tB') := by
  intro wh pins s σ H Q I h
  refine isTrue_and (thn (ha pins s σ H _ I h) fun c s1 ⟨H1, I1, q1⟩ => ?_)
  cases c with
  | true => exact hb wh pins s1 σ H1 Q I1 q1
  | false => exact ⟨H1, I1, q1⟩
theorem pw_or (ha : PT X a tA) (hb : PW X (.BoolOp .Or (b :: rest) pos) tB') : PW X (.BoolOp .Or (a :: b :: rest) pos) (tOr tA tB') := by
  intro wh pins s σ H Q I h
  refine isTrue_or (thn (ha pins s σ H _ I h) fun c s1 ⟨H1, I1, q1⟩ => ?_)
  cases c with
  | true => exact ⟨H1, I1, q1⟩
  | false => exact hb wh pins s1 σ H1 Q I1 q1
theorem pt_not (ha : PT X a tA) : PT X (.UnaryOp .Not a pos) (tNot tA) := by
  intro pins s σ H Q I h
  exact isTrue_not (ha pins s σ H (fun c H1 => Q (!c) H1) I h)
noncomputable def tAndV (ta tb : TE) : TE := fun σ H Q => ta σ H fun x H1 => ∃ c, x = .bl c ∧ if c = true then tb σ H1 Q else Q (.bl false) H1
theorem pe_one {op} {t : TE} (h : PE X a t) : PE X (.BoolOp op [a] pos) t := fun pins s σ H Q I hw => BoolOp_one (h pins s σ H Q I hw)
theorem pe_and (ha : PE X a ta) (hb : PE X (.BoolOp .And (b :: rest) pos) tb) : PE X (.BoolOp .And (a :: b :: rest) pos) (tAndV ta tb) := by
  intro pins s σ H Q I h
  refine BoolOp_and (thn (ha pins s σ H _ I h) fun v s1 ⟨x, H1, I1, r1, q1⟩ => ?_)
  obtain ⟨c, rfl, q1⟩ := q1
  cases r1
  refine wpAny_truthy_bool ?_
  cases c with
  | true => exact hb pins s1 σ H1 Q I1 q1
  | false => exact ⟨.bl false, H1, I1, rfl, q1⟩
noncomputable def tIf (t : TT) (ta tb : TE) : TE := fun σ H Q => t σ H fun c H1 => if c = true then ta σ H1 Q else tb σ H1 Q
theorem pe_ifExp {c : Expr} (hc : PT X c tA) (ha : PE X a ta) (hb : PE X b tb) : PE X (.IfExp c a b pos) (tIf tA ta tb) := by
  intro pins s σ H Q I h
  refine wpAny_IfExp (thn (hc pins s σ H _ I h) fun d s1 ⟨H1, I1, q1⟩ => ?_)
  cases d with
  | true => exact ha pins s1 σ H1 Q I1 q1
  | false => exact hb pins s1 σ H1 Q I1 q1
end
end L2
namespace L2
open PySem PySem.Spec PyProof.Rows
noncomputable def SqL (K : PySem.W.Frag) (H : Hp) (a : Addr) (xs : List V) : Prop :=
  Rd H a (.lst xs) ∨
    ∃ (o : Obj) (its : Array Value) (n : Nat), K.lookup a = some o ∧ o.cls = .type "list" ∧ o.dict = none ∧ o.data = .seq its n ∧ its.size ≤ sizeLine ∧ Vals xs its.toList
noncomputable def SqT (K : PySem.W.Frag) (H : Hp) (a : Addr) (xs : List V) : Prop :=
  Rd H a (.tup xs) ∨
    ∃ (o : Obj) (its : Array Value) (n : Nat), K.lookup a = some o ∧ o.cls = .type "tuple" ∧ o.dict = none ∧ o.data = .seq its n ∧ its.size ≤ sizeLine ∧ Vals xs its.toList
noncomputable def absV : Value → Option V
  | .none => some .non
  | .bool b => some (.bl b)
  | .int i _ => some (.int i)
  | .str x _ => some (.str x)
  | .bytes b _ => some (.byt b)
  | .float b _ => some (.flt b)
  | .ref a => some (.ref a)
  | .type n => some (.ty n)
  | _ => none
theorem RelV.abs {x : V} {u : Value} (r : RelV x u) : absV u = some x := by
  cases x with
  | non => cases r; rfl
  | bl _ => cases r; rfl
  | int _ => obtain ⟨t, rfl⟩ := r; rfl
  | str _ => obtain ⟨t, rfl⟩ := r; rfl
  | byt _ => obtain ⟨t, rfl⟩ := r; rfl
  | flt _ => obtain ⟨t, rfl⟩ := r; rfl
  | ref _ => cases r; rfl
  | ty _ => cases r; rfl
theorem RelV.inj {x y : V} {u : Value} (r : RelV x u) (q : RelV y u) : x = y := Option.some.inj (r.abs.symm.trans q.abs)
theorem Vals.inj : ∀ {xs ys : List V} {us : List Value}, Vals xs us → Vals ys us → xs = ys
  | _, _, _, .nil, .nil => rfl
  | _, _, _, .cons r t, .cons r' t' => by rw [r.inj r', Vals.inj t t']
section
variable {X : Cx} {pins : List (Addr × Obj)} {σ : St} {H : Hp} {s : Shared} {a : Addr} {xs ys : List V}
theorem SqL.of {K : PySem.W.Frag} (h : H a = some (.lst xs)) : SqL K H a xs := .inl (.inl h)
theorem SqT.of {K : PySem.W.Frag} (h : H a = some (.tup xs)) : SqT K H a xs := .inl (.inl h)
theorem Inv.list (I : Inv X pins σ H s) (h : SqL X.K H a xs) : ∃ its : List Value, Vals xs its ∧ PlainL s.heap a its.toArray ∧ xs.length ≤ sizeLine := by
  rcases h with h | ⟨o, its, n, hk, hc, hd, hs, hz, r⟩
  · obtain ⟨z, its, n, r, e⟩ := h.ok I.hok
    exact ⟨its, r, ⟨_, n, e, rfl, rfl, rfl⟩, z⟩
  · refine ⟨its.toList, r, ⟨o, n, I.kIn a o hk, hc, hd, by simpa using hs⟩, ?_⟩
    have e := r.length
    simp only [Array.length_toList] at e
    omega
theorem Inv.tuple (I : Inv X pins σ H s) (h : SqT X.K H a xs) : ∃ its : List Value, Vals xs its ∧ IsTup s.heap a its.toArray ∧ xs.length ≤ sizeLine := by
  rcases h with h | ⟨o, its, n, hk, hc, _, hs, hz, r⟩
  · obtain ⟨z, its, r, p⟩ := h.ok I.hok
    exact ⟨its, r, p.1, z⟩
  · refine ⟨its.toList, r, ⟨o, I.kIn a o hk, hc, n, by simpa using hs⟩, ?_⟩
    have e := r.length
    simp only [Array.length_toList] at e
    omega
theorem Inv.list_inj (I : Inv X pins σ H s) (h : SqL X.K H a xs) (h' : SqL X.K H a ys) : xs = ys := by
  obtain ⟨its, r, ⟨o, n, e, _, _, d⟩, _⟩ := I.list h
  obtain ⟨its', r', ⟨o', n', e', _, _, d'⟩, _⟩ := I.list h'
  rw [e] at e'; cases e'
  rw [d] at d'
  injection d' with d1 _
  have : its = its' := by simpa using congrArg Array.toList d1
  subst this
  exact r.inj r'
theorem Inv.tuple_inj (I : Inv X pins σ H s) (h : SqT X.K H a xs) (h' : SqT X.K H a ys) : xs = ys := by
  obtain ⟨its, r, ⟨o, e, _, n, d⟩, _⟩ := I.tuple h
  obtain ⟨its', r', ⟨o', e', _, n', d'⟩, _⟩ := I.tuple h'
  rw [e] at e'; cases e'
  rw [d] at d'
  injection d' with d1 _
  have : its = its' := by simpa using congrArg Array.toList d1
  subst this
  exact r.inj r'
end
noncomputable abbrev Cx.wish (X : Cx) (E : Value → Shared → Prop) : Cx := { X with xe := E }
noncomputable abbrev Cx.nox (X : Cx) : Cx := X.wish fun _ _ => False
theorem Cx.Ok.wish {X : Cx} (ok : X.Ok) (E : Value → Shared → Prop) : (X.wish E).Ok :=
  ⟨ok.mod, ok.kind, ok.glob, ok.blt, ok.above, ok.inj, ok.has, ok.cab, ok.hd, ok.frames, ok.stk, ok.exf, ok.bs, ok.bsz, ok.noex, ok.exfs, ok.funs, ok.frf⟩
theorem Cx.Ok.unwish {X : Cx} {E : Value → Shared → Prop} (ok : (X.wish E).Ok) : X.Ok :=
  ⟨ok.mod, ok.kind, ok.glob, ok.blt, ok.above, ok.inj, ok.has, ok.cab, ok.hd, ok.frames, ok.stk, ok.exf, ok.bs, ok.bsz, ok.noex, ok.exfs, ok.funs, ok.frf⟩
section
variable {X : Cx} {pins : List (Addr × Obj)} {σ : St} {H : Hp} {s : Shared} {E : Value → Shared → Prop}
theorem Inv.wish (I : Inv X pins σ H s) (E : Value → Shared → Prop) : Inv (X.wish E) pins σ H s := ⟨I.ok.wish E, I.os, I.bare, I.base, I.loc, I.cell, I.free, I.freeC, I.pin, I.hok, I.len⟩
theorem Inv.unwish (I : Inv (X.wish E) pins σ H s) : Inv X pins σ H s := ⟨I.ok.unwish, I.os, I.bare, I.base, I.loc, I.cell, I.free, I.freeC, I.pin, I.hok, I.len⟩
theorem SP.unwish {D : Ends} {f : Flow} {s' : Shared} (h : SP (X.wish E) pins D f s') : SP X pins D f s' := by
  cases f with
  | next => obtain ⟨σ', H', I, q⟩ := h; exact ⟨σ', H', I.unwish, q⟩
  | brk => obtain ⟨σ', H', I, q⟩ := h; exact ⟨σ', H', I.unwish, q⟩
  | cont => obtain ⟨σ', H', I, q⟩ := h; exact ⟨σ', H', I.unwish, q⟩
  | ret u => obtain ⟨v, σ', H', I, r, q⟩ := h; exact ⟨v, σ', H', I.unwish, r, q⟩
theorem PSs.nox {st : List Stmt} {t : TS} (h : PSs X.nox st t) : PSs X st t := fun pins s σ H D I hw =>
  wpAny_mono (h pins s σ H D (I.wish _) hw) (fun _ _ q => q.unwish) fun _ _ z => False.elim z
end
section
variable {X : Cx} {st : Stmt} {rest : List Stmt} {t u : TS} {e : Expr} {te : TE} {pos : Pos}
noncomputable def tNext : TS := fun D σ H => D.nx σ H
noncomputable def tSeq (t u : TS) : TS := fun D σ H => t { D with nx := u D } σ H
theorem pss_nil : PSs X [] tNext := fun _ _ σ H _ I h => wpAny_execs_nil ⟨σ, H, I, h⟩
theorem pss_cons (h1 : PS X st t) (h2 : PSs X rest u) : PSs X (st :: rest) (tSeq t u) := by
  intro pins s σ H D I h
  refine wpAny_execs_cons (thn (h1 pins s σ H { D with nx := u D } I h) fun f s1 q => ?_)
  cases f with
  | next =>
    obtain ⟨σ', H', I', q⟩ := q
    exact h2 pins s1 σ' H' D I' q
  | ret v => exact q
  | brk => exact q
  | cont => exact q
theorem Inv.quiet {pins : List (Addr × Obj)} {σ : St} {H : Hp} {s : Shared} (I : Inv X pins σ H s) : interactive X.env = false := by simp [interactive, I.ok.kind]
noncomputable def tDrop (te : TE) : TS := fun D σ H => te σ H fun _ H1 => D.nx σ H1
theorem ps_expr (he : PE X e te) (hs : swapsWith e none pos.line X.env = pure false := by rfl) : PS X (.Expr e pos) (tDrop te) := by
  intro pins s σ H D I h
  exact wpAny_Expr_any (thn (he pins s σ H _ I h) fun v s1 ⟨x, H1, I1, r1, q1⟩ => ⟨σ, H1, I1, q1⟩) I.quiet hs
noncomputable def tRet (te : TE) : TS := fun D σ H => te σ H D.rt
theorem ps_ret (he : PE X e te) : PS X (.Return (some e) pos) (tRet te) := by
  intro pins s σ H D I h
  exact wpAny_Return_some (thn (he pins s σ H _ I h) fun v s1 ⟨x, H1, I1, r1, q1⟩ => ⟨x, σ, H1, I1, r1, q1⟩)
noncomputable def tIfS (c : TT) (t u : TS) : TS := fun D σ H => c σ H fun b H1 => if b = true then t D σ H1 else u D σ H1
theorem ps_if {c : Expr} {a b : List Stmt} {tc : TT} (hc : PT X c tc) (ha : PSs X a t) (hb : PSs X b u) : PS X (.If c a b pos) (tIfS tc t u) := by
  intro pins s σ H D I h
  refine wpAny_If (thn (hc pins s σ H _ I h) fun d s1 ⟨H1, I1, q1⟩ => ?_)
  cases d with
  | true => exact ha pins s1 σ H1 D I1 q1
  | false => exact hb pins s1 σ H1 D I1 q1
end
noncomputable abbrev TG := V → St → Hp → (St → Hp → Prop) → Prop
noncomputable def PG (X : Cx) (target : Expr) (t : TG) : Prop :=
  ∀ (pins : List (Addr × Obj)) (s : Shared) (σ : St) (H : Hp) (v : V) (u : Value) (Q : St → Hp → Prop), Inv X pins σ H s → RelV v u → t v σ H Q →
    wpAny (model X.prog X.w) X.A (assign target X.env u) (fun _ s' => ∃ σ' H', Inv X pins σ' H' s' ∧ Q σ' H') X.xe s
noncomputable abbrev TIp := V → V → Hp → VK → Prop
noncomputable def PIp (X : Cx) (op : Operator) (t : TIp) : Prop :=
  ∀ (pins : List (Addr × Obj)) (s : Shared) (σ : St) (H : Hp) (x y : V) (v u : Value) (Q : VK), Inv X pins σ H s → RelV x v → RelV y u → t x y H Q →
    wpAny (model X.prog X.w) X.A (inplaceOp op v u) (EP X pins σ Q) X.xe s
section
variable {X : Cx} {pos : Pos}
noncomputable def gName (i : Nat) : TG := fun v σ H Q => Q (σ.set i (some v)) H
theorem pg_name {i : Nat} {x : Str} (hN : X.N.Nodup) (hi : X.N[i]? = some x) (hx : Loc X.env.scope x) (hf : X.fn x = true ∨ X.env.scope.names.lookup x = some .local := by first | exact .inl rfl | exact .inr rfl | assumption) : PG X (.Name x pos) (gName i) := by
  intro pins s σ H v u Q I r h
  exact wpAny_assign_Name (store_ok I hN hi hx r (fun s' I' => ⟨_, H, I', h⟩) hf)
noncomputable def tAsg (te : TE) (g : TG) : TS := fun D σ H => te σ H fun x H1 => g x σ H1 D.nx
theorem ps_set {i : Nat} {x : Str} {e : Expr} {te : TE} {pos' : Pos} (hN : X.N.Nodup) (hi : X.N[i]? = some x) (hx : Loc X.env.scope x) (he : PE X e te) (hs : swapsWith e (some (.Name x pos')) pos.line X.env = pure false := by rfl) (hf : X.fn x = true ∨ X.env.scope.names.lookup x = some .local := by first | exact .inl rfl | exact .inr rfl | assumption) :
    PS X (.Assign [.Name x pos'] e pos) (tAsg te (gName i)) := by
  intro pins s σ H D I h
  refine wpAny_Assign_Name (thn (he pins s σ H _ I h) fun v s1 ⟨y, H1, I1, r1, q1⟩ => ?_) hs
  exact store_ok I1 hN hi hx r1 (fun s2 I2 => ⟨_, H1, I2, q1⟩) hf
noncomputable def tPar (i j : Nat) (ta : TA) : TS := fun D σ H => ta σ H fun vs H1 => ∃ v w, vs = [v, w] ∧ D.nx ((σ.set i (some v)).set j (some w)) H1
theorem ps_par {i j : Nat} {x y : Str} {a b : Expr} {ta : TA} {px py pt : Pos} {kt k2 pt2} (hc : X.calm = true) (hN : X.N.Nodup) (hi : X.N[i]? = some x) (hj : X.N[j]? = some y) (hij : i ≠ j)
    (hx : X.env.scope.names.lookup x = some .local) (hy : X.env.scope.names.lookup y = some .local) (ha : PA X [a, b] ta)
    (hw : swappedStores [.Tuple [.Name x px, .Name y py] kt pt] (.Tuple [a, b] k2 pt2) X.env = pure (some [x, y]))
    (hs : swapsWithSole [.Tuple [.Name x px, .Name y py] kt pt] (.Tuple [a, b] k2 pt2) pos.line X.env = pure false := by rfl) :
    PS X (.Assign [.Tuple [.Name x px, .Name y py] kt pt] (.Tuple [a, b] k2 pt2) pos) (tPar i j ta) := by
  intro pins s σ H D I h
  rw [exec_Assign_arm]
  refine wpAny_bind (wpAny_standAt ?_)
  rw [hs]
  refine wpAny_bind (wpAny_pure ?_)
  rw [if_neg (by decide)]
  refine wpAny_bind (Tuple_ (thn (ha _ pins s σ H _ I h) fun us s1 ⟨vs, H1, I1, r1, q1⟩ => ?_))
  obtain ⟨v, w, e1, q1⟩ := q1
  subst e1
  obtain ⟨u1, u2, rfl, rv, rw'⟩ : ∃ u1 u2, us = [u1, u2] ∧ RelV v u1 ∧ RelV w u2 := by
    cases r1 with
    | cons p q =>
      cases q with
      | cons p' q' =>
        cases q'
        exact ⟨_, _, rfl, p, p'⟩
  refine wpAny_newObj_type ?_ (by show 2 ≤ sizeLine; decide)
  have I2 : Inv X pins σ H1 { s1 with heap := s1.heap.push { cls := .type "tuple", data := .seq [u1, u2].toArray } } := I1.kept (t' := s1.toks) fun b o e => Heap.get?_push_of_some _ e
  rw [hw]
  refine wpAny_bind (wpAny_pure ?_)
  show wpAny (model X.prog X.w) X.A (do rule "assign.swapped-stores"; let items ← unpackItems (.ref s1.heap.objs.size) 2 none; assignInOrder [fun v => bindName X.env y v, fun v => bindName X.env x v] items.reverse; pure Flow.next) _ _ _
  refine wpAny_bind (wpAny_rule (wpAny_bind (unpackItems_tuple (items := #[u1, u2]) (I.ok.hd hc) (IsTup.new s1.heap _) fun h' hx' => ?_)))
  have I3 := I2.kept (h' := h') (t' := s1.toks) fun b o e => hx' b o (Nat.ne_of_lt (Heap.lt_size e)) e
  show wpAny _ _ (assignInOrder [fun v => bindName X.env y v, fun v => bindName X.env x v] [u2, u1] >>= fun _ => pure Flow.next) _ _ _
  refine wpAny_bind (assignInOrder_cons (wpAny_bindName (store_ok I3 hN hj (.inl hy) rw' (fun s2 I4 => ?_) (.inr hy))))
  refine assignInOrder_cons (wpAny_bindName (store_ok I4 hN hi (.inl hx) rv (fun s3 I5 => assignInOrder_nil (wpAny_pure ?_)) (.inr hx)))
  rw [List.set_comm _ _ (Ne.symm hij)] at I5
  exact ⟨_, H1, I5, q1⟩
noncomputable def tAug (i : Nat) (te : TE) (ti : TIp) : TS := fun D σ H => ∃ x, σ[i]? = some (some x) ∧ te σ H fun y H1 => ti x y H1 fun z H2 => D.nx (σ.set i (some z)) H2
theorem ps_aug {i : Nat} {x : Str} {e : Expr} {te : TE} {op : Operator} {ti : TIp} {pos' : Pos} (hN : X.N.Nodup) (hi : X.N[i]? = some x) (hx : Loc X.env.scope x) (he : PE X e te) (ho : PIp X op ti) (hf : X.fn x = true ∨ X.env.scope.names.lookup x = some .local := by first | exact .inl rfl | exact .inr rfl | assumption) :
    PS X (.AugAssign (.Name x pos') op e pos) (tAug i te ti) := by
  intro pins s σ H D I h
  obtain ⟨v, e1, h⟩ := h
  obtain ⟨m, hn, hl⟩ := I.loc
  have vis : Vis X.env.scope x := by rcases hx with k | k; exact .inl k; exact .inr (.inl k)
  obtain ⟨u, r, l⟩ := hl i x v hi e1 vis
  refine wpAny_AugAssign_Name ?_
  have go : wpAny (model X.prog X.w) X.A (eval e X.env) (fun w s₂ => wpAny (model X.prog X.w) X.A (inplaceOp op u w) (fun r s₃ => wpAny (model X.prog X.w) X.A (storeName X.env x r) (fun _ => SP X pins D .next) X.xe s₃) X.xe s₂) X.xe s := by
    refine thn (he pins s σ H _ I h) fun w s1 ⟨y, H1, I1, r1, q1⟩ => ?_
    refine thn (ho pins s1 σ H1 v y u w _ I1 r r1 q1) fun z s2 ⟨zv, H2, I2, r2, q2⟩ => ?_
    exact store_ok I2 hN hi hx r2 (fun s3 I3 => ⟨_, H2, I3, q2⟩) hf
  rcases l with ⟨hk, hm⟩ | ⟨hk, c, hc, hcell⟩
  · exact wpAny_loadName_local I.ok.kind hk hn hm go
  · rcases hk with hk | hk
    · exact wpAny_loadName_cell I.ok.kind hk hc hcell go
    · rcases hx with k | k
      · have : X.env.scope.names.lookup x = some .free := hk
        rw [k] at this; cases this
      · have : X.env.scope.names.lookup x = some .free := hk
        rw [k] at this; cases this
noncomputable def ipI (f : Int → Int → Int) : TIp := fun x y H Q => ∃ i j, x = .int i ∧ y = .int j ∧ Q (.int (f i j)) H
theorem ip_add : PIp X .Add (ipI fun i j => i + j) := by
  intro pins s σ H x y v u Q I r1 r2 h
  obtain ⟨i, j, e1, e2, q⟩ := h
  subst e1; subst e2
  obtain ⟨t, rfl⟩ := r1
  obtain ⟨t', rfl⟩ := r2
  exact iadd_int ⟨.int _, H, I.tok _, ⟨_, rfl⟩, q⟩
end
section
variable {X : Cx} {pos : Pos}
noncomputable def tWhile (c : TT) (tb : TS) : TS := fun D σ H => ∃ W : Nat → St → Hp → Prop, (∃ m, W m σ H) ∧ ∀ m σ H, W m σ H →
  c σ H fun b H1 => if b = true then ∃ N : St → Hp → Prop, (∀ σ' H', N σ' H' → ∃ m', m' < m ∧ W m' σ' H') ∧ tb { D with nx := N, ct := N, bk := D.nx } σ H1 else D.nx σ H1
theorem ps_while {c : Expr} {body : List Stmt} {tc : TT} {tb : TS} (hp : PassesOwn (model X.prog X.w) X.A X.env X.xe) (hc : PT X c tc) (hb : PSs X body tb) : PS X (.While c body [] pos) (tWhile tc tb) := by
  intro pins s σ H D I h
  obtain ⟨W, ⟨m0, w0⟩, turn⟩ := h
  refine wpAny_While (codeAny_whileLoop (fun n s' => ∃ σ' H', Inv X pins σ' H' s' ∧ W n σ' H') ?_ m0 ⟨σ, H, I, w0⟩)
  rintro n s1 ⟨σ1, H1, I1, w1⟩
  refine wpAny_passesOwn hp (thn (hc pins s1 σ1 H1 _ I1 (turn n σ1 H1 w1)) fun b s2 ⟨H2, I2, q2⟩ => ?_)
  cases b with
  | true =>
    obtain ⟨N, hN, q2⟩ := q2
    rw [if_pos rfl]
    refine wpAny_passesOwn hp (thn (hb pins s2 σ1 H2 _ I2 q2) fun f s3 q3 => ?_)
    cases f with
    | next =>
      obtain ⟨σ3, H3, I3, n3⟩ := q3
      obtain ⟨m', hm, w3⟩ := hN σ3 H3 n3
      exact ⟨m', hm, σ3, H3, I3, w3⟩
    | cont =>
      obtain ⟨σ3, H3, I3, n3⟩ := q3
      obtain ⟨m', hm, w3⟩ := hN σ3 H3 n3
      exact ⟨m', hm, σ3, H3, I3, w3⟩
    | brk => exact q3
    | ret v => exact q3
  | false =>
    rw [if_neg Bool.false_ne_true]
    exact wpAny_execs_nil ⟨σ1, H2, I2, q2⟩
end
structure It where
  go : Nat → Hp → Prop
  yld : Nat → Hp → V → Hp → Prop
  stop : Nat → Hp → Prop
noncomputable def FpOk (X : Cx) (pins : List (Addr × Obj)) (H : Hp) (b : Addr) : Prop :=
  H b = none ∧ b ≠ X.env.locals ∧ b ∉ X.fs ∧ (b ∈ X.ex ∨ X.s₀.heap.objs.size ≤ b) ∧ (∀ x c, X.env.cells.lookup x = some c → c ≠ b) ∧ ∀ p ∈ X.pn ++ pins, p.1 ≠ b
theorem Inv.fpOk {X : Cx} {pins : List (Addr × Obj)} {σ : St} {H H' : Hp} {s : Shared} {b : Addr} (I : Inv X pins σ H s) (hb : s.heap.objs.size ≤ b) (hn : H' b = none) : FpOk X pins H' b := by
  refine ⟨hn, Nat.ne_of_gt (Nat.lt_of_lt_of_le I.lt hb), I.nofs hb, .inr (Nat.le_trans I.sz hb), fun x c e z => ?_, fun p hp z => ?_⟩
  · obtain ⟨v, q⟩ := I.cell x c e
    exact absurd (Nat.lt_of_lt_of_le q.lt (by rw [z]; exact hb)) (Nat.lt_irrefl _)
  · exact absurd (Nat.lt_of_lt_of_le (Heap.lt_size (I.pin p hp).1) (by rw [z]; exact hb)) (Nat.lt_irrefl _)
structure Turn (P : Program) (w : World) (K : PySem.W.Frag) (tg : Expr) (J : It) (fp : List Addr) (it : Addr) (tn : Nat → Heap → Prop) : Prop where
  mem : it ∈ fp
  obj : ∀ i h, tn i h → ∀ b ∈ fp, ∃ o, h.get? b = some o ∧ ∀ v, o.data ≠ .cell v
  keep : ∀ i h h', tn i h → (∀ b ∈ fp, ∀ o, h.get? b = some o → h'.get? b = some o) → tn i h'
  item : ∀ (X : Cx), X.prog = P → X.w = w → X.K = K → X.calm = true → ∀ (i : Nat) (pins : List (Addr × Obj)) (s : Shared) (σ : St) (H : Hp) (E : Value → Shared → Prop), Inv X pins σ H s → (∀ b ∈ fp, FpOk X pins H b) → tn i s.heap → J.go i H →
    wpAny (model P w) X.A (pyNext (.ref it)) (fun r s1 => ∃ u, r = some u ∧
      wpAny (model P w) X.A (letOwnedTupleGo tg (.ref it) u) (fun _ s2 => ∃ x H', Inv X pins σ H' s2 ∧ RelV x u ∧ J.yld i H x H' ∧ tn (i + 1) s2.heap ∧ ∀ b ∈ fp, H' b = none) E s1) E s
  done : ∀ (X : Cx), X.prog = P → X.w = w → X.K = K → X.calm = true → ∀ (i : Nat) (pins : List (Addr × Obj)) (s : Shared) (σ : St) (H : Hp) (E : Value → Shared → Prop), Inv X pins σ H s → (∀ b ∈ fp, FpOk X pins H b) → tn i s.heap → J.stop i H →
    wpAny (model P w) X.A (pyNext (.ref it)) (fun r s1 => r = none ∧ Inv X pins σ H s1) E s
  self : ∀ (A : Around) (i : Nat) (s : Shared) (Q : Value → Shared → Prop) (E : Value → Shared → Prop), tn i s.heap → Q (.ref it) s → wpAny (model P w) A (pyIter (.ref it)) Q E s
noncomputable abbrev TI := St → Hp → (It → Hp → Prop) → Prop
noncomputable def PIE (X : Cx) (pins : List (Addr × Obj)) (σ : St) (tg : Expr) (R : It → Hp → Prop) (itv : Value) (s2 : Shared) : Prop :=
  ∃ (it : Addr) (fp : List Addr) (tn : Nat → Heap → Prop) (J : It) (H' : Hp), itv = .ref it ∧ Inv X pins σ H' s2 ∧ Turn X.prog X.w X.K tg J fp it tn ∧ tn 0 s2.heap ∧ (∀ b ∈ fp, FpOk X pins H' b) ∧ R J H'
noncomputable def PI (X : Cx) (tg iter : Expr) (wi : TI) : Prop :=
  ∀ (pins : List (Addr × Obj)) (s : Shared) (σ : St) (H : Hp) (R : It → Hp → Prop), Inv X pins σ H s → wi σ H R →
    wpAny (model X.prog X.w) X.A (eval iter X.env) (fun v s1 => wpAny (model X.prog X.w) X.A (pyIter v) (PIE X pins σ tg R) X.xe s1) X.xe s
theorem go_of {M : Model} {A : Around} {E : Value → Shared → Prop} {s : Shared} {tg : Expr} {it : Addr} {u : Value} {o : Obj} {n : String} {vs : Array Value} {Q : Unit → Shared → Prop} (ho : s.heap.get? it = some o) (hc : o.cls = .type n) (hd : o.data = .fields vs)
    (hn : ["enumerate", "zip", "dict_itemiterator", "dict_reverseitemiterator", "odict_iterator", "itertools.zip_longest", "itertools.pairwise"].contains n = false) (hQ : Q () s) : wpAny M A (letOwnedTupleGo tg (.ref it) u) Q E s := by
  unfold letOwnedTupleGo
  cases tg <;> first
    | exact wpAny_pure hQ
    | (cases u <;> first
        | exact wpAny_pure hQ
        | (refine wpAny_bind (wpAny_load ho ?_)
           rw [hc, hd]
           show wpAny M A (if (["enumerate", "zip", "dict_itemiterator", "dict_reverseitemiterator", "odict_iterator", "itertools.zip_longest", "itertools.pairwise"].contains n && vs[0]? == some (rawInt _)) = true then _ else _) Q E s
           rw [if_neg (by intro h; rw [hn, Bool.false_and] at h; cases h)]
           exact wpAny_pure hQ))
noncomputable def Itl (K : PySem.W.Frag) (a : Addr) : It :=
  ⟨fun i H => ∃ xs x, SqL K H a xs ∧ xs[i]? = some x, fun i H x H' => H' = H ∧ ∀ xs, SqL K H a xs → xs[i]? = some x, fun i H => ∃ xs, SqL K H a xs ∧ xs.length ≤ i⟩
noncomputable def Itt (K : PySem.W.Frag) (a : Addr) : It :=
  ⟨fun i H => ∃ xs x, SqT K H a xs ∧ xs[i]? = some x, fun i H x H' => H' = H ∧ ∀ xs, SqT K H a xs → xs[i]? = some x, fun i H => ∃ xs, SqT K H a xs ∧ xs.length ≤ i⟩
noncomputable def Itr (lo : Int) (n : Nat) : It := ⟨fun i _ => i < n, fun i H x H' => H' = H ∧ x = .int (lo + i), fun i _ => n ≤ i⟩
theorem turn_list {P : Program} {w : World} {K : PySem.W.Frag} {tg : Expr} (a it : Addr) : Turn P w K tg (Itl K a) [it] it (fun i h => h.IsListIter it a i) where
  mem := by simp
  obj := fun i h st b hb => by
    have e : b = it := by simpa using hb
    subst e
    obtain ⟨o, e, c, d⟩ := st
    exact ⟨o, e, fun v z => by rw [d] at z; cases z⟩
  keep := fun i h h' st k => st.at fun o e => k it (by simp) o e
  item := by
    intro X hP hw hK hc i pins s σ H E I hf st hg
    subst hP hw hK
    obtain ⟨xs, x, hq, hx⟩ := hg
    obtain ⟨its, rv, p, hz⟩ := I.list hq
    obtain ⟨u, hu, ru⟩ := rv.get hx
    obtain ⟨f0, f1, f2, f3, f4, f5⟩ := hf it (by simp)
    refine wpAny_pyNext_list_item st p.isList (x := u) (by simpa using hu) fun h' st' sb => ?_
    have I1 : Inv X pins σ H { s with heap := h' } := I.turned (t' := s.toks) (fun b o hb e => (sb.2 b hb).trans e) f0 f1 f3 f4 f5
    obtain ⟨o, e, c, d⟩ := id st'
    exact ⟨u, rfl, go_of (s := { s with heap := h' }) e c d (by decide) ⟨x, H, I1, ru, ⟨rfl, fun ys hy => by rw [I.list_inj hy hq]; exact hx⟩, st', fun b hb => (hf b hb).1⟩⟩
  done := by
    intro X hP hw hK hc i pins s σ H E I hf st hg
    subst hP hw hK
    obtain ⟨xs, hq, hx⟩ := hg
    obtain ⟨its, rv, p, hz⟩ := I.list hq
    obtain ⟨f0, f1, f2, f3, f4, f5⟩ := hf it (by simp)
    have hl := rv.length
    exact wpAny_pyNext_list_end (I.ok.hd hc) st p.isList (by simp; omega) fun h' eb => ⟨rfl, I.turned (t' := s.toks) (fun b o hb e => eb b o hb e) f0 f1 f3 f4 f5⟩
  self := fun _ _ _ _ _ st h => wpAny_pyIter_listiter st h
theorem turn_tuple {P : Program} {w : World} {K : PySem.W.Frag} {tg : Expr} (a it : Addr) : Turn P w K tg (Itt K a) [it] it (fun i h => h.IsTupleIter it a i) where
  mem := by simp
  obj := fun i h st b hb => by
    have e : b = it := by simpa using hb
    subst e
    obtain ⟨o, e, c, d⟩ := st
    exact ⟨o, e, fun v z => by rw [d] at z; cases z⟩
  keep := fun i h h' st k => st.at fun o e => k it (by simp) o e
  item := by
    intro X hP hw hK hc i pins s σ H E I hf st hg
    subst hP hw hK
    obtain ⟨xs, x, hq, hx⟩ := hg
    obtain ⟨its, rv, p, hz⟩ := I.tuple hq
    obtain ⟨u, hu, ru⟩ := rv.get hx
    obtain ⟨f0, f1, f2, f3, f4, f5⟩ := hf it (by simp)
    refine wpAny_pyNext_tuple_item st (show s.heap.IsTuple a its.toArray from p) (x := u) (by simpa using hu) fun h' st' sb => ?_
    have I1 : Inv X pins σ H { s with heap := h' } := I.turned (t' := s.toks) (fun b o hb e => (sb.2 b hb).trans e) f0 f1 f3 f4 f5
    obtain ⟨o, e, c, d⟩ := id st'
    exact ⟨u, rfl, go_of (s := { s with heap := h' }) e c d (by decide) ⟨x, H, I1, ru, ⟨rfl, fun ys hy => by rw [I.tuple_inj hy hq]; exact hx⟩, st', fun b hb => (hf b hb).1⟩⟩
  done := by
    intro X hP hw hK hc i pins s σ H E I hf st hg
    subst hP hw hK
    obtain ⟨xs, hq, hx⟩ := hg
    obtain ⟨its, rv, p, hz⟩ := I.tuple hq
    obtain ⟨f0, f1, f2, f3, f4, f5⟩ := hf it (by simp)
    have hl := rv.length
    exact wpAny_pyNext_tuple_end (I.ok.hd hc) st (show s.heap.IsTuple a its.toArray from p) (by simp; omega) fun h' eb => ⟨rfl, I.turned (t' := s.toks) (fun b o hb e => eb b o hb e) f0 f1 f3 f4 f5⟩
  self := fun _ _ _ _ _ st h => wpAny_pyIter_tupleiter st h
theorem turn_range {P : Program} {w : World} {K : PySem.W.Frag} {tg : Expr} (it : Addr) (lo : Int) (n : Nat) : Turn P w K tg (Itr lo n) [it] it (fun i h => IsRangeIter h it (lo + (i : Nat) * 1) ((n : Int) - (i : Nat)) 1) where
  mem := by simp
  obj := fun i h st b hb => by
    have e : b = it := by simpa using hb
    subst e
    exact ⟨_, st, fun v z => by
      have z' : Data.fields _ = Data.cell v := z
      cases z'⟩
  keep := fun i h h' st k => k it (by simp) _ st
  item := by
    intro X hP hw hK hc i pins s σ H E I hf st hg
    subst hP hw hK
    obtain ⟨f0, f1, f2, f3, f4, f5⟩ := hf it (by simp)
    have W := Walks.range (prog := X.prog) (w := X.w) (I.ok.hd hc) it lo 1 n
    refine W.item i s _ _ hg st fun v h' tk hv st' kk => ?_
    obtain ⟨t, rfl⟩ := hv
    have I1 : Inv X pins σ H { s with heap := h', toks := tk } := I.turned (fun b o hb e => kk b o (by simpa using hb) e) f0 f1 f3 f4 f5
    refine ⟨_, rfl, go_of (s := { s with heap := h', toks := tk }) (n := "range_iterator") st' rfl rfl (by decide) ⟨.int (lo + i), H, I1, ⟨t, ?_⟩, ⟨rfl, rfl⟩, st', fun b hb => (hf b hb).1⟩⟩
    rw [Int.mul_one]
  done := by
    intro X hP hw hK hc i pins s σ H E I hf st hg
    subst hP hw hK
    obtain ⟨f0, f1, f2, f3, f4, f5⟩ := hf it (by simp)
    exact wpAny_pyNext_range_end (I.ok.hd hc) st (by have : n ≤ i := hg; omega) fun h' eb => ⟨rfl, I.turned (t' := s.toks) (fun b o hb e => eb b o hb e) f0 f1 f3 f4 f5⟩
  self := fun _ _ _ _ _ st h => wpAny_pyIter_rangeiter st h
end L2
namespace L2
open PySem PySem.Spec PyProof.Rows
section
variable {X : Cx} {tg : Expr}
theorem range_it {pins : List (Addr × Obj)} {σ : St} {H : Hp} {s : Shared} {R : It → Hp → Prop} {E : Value → Shared → Prop} {lo hi : Int} {t u v : Tok} {tk : Nat} (I : Inv X pins σ H s) (h1 : -(2 ^ 62) ≤ lo) (h2 : lo < 2 ^ 62) (h3 : -(2 ^ 62) ≤ hi) (h4 : hi < 2 ^ 62)
    (q : R (Itr lo (hi - lo).toNat) H) : wpAny (model X.prog X.w) X.A (pyIter (.ref s.heap.objs.size)) (PIE X pins σ tg R) E { s with heap := s.heap.push { cls := .type "range", data := .fields #[.int lo t, .int hi u, .int 1 v] }, toks := tk } := by
  refine wpAny_pyIter_range (IsRange.new ..) (small_one h1 h2 h3 h4) ?_
  have I1 : Inv X pins σ H { s with heap := s.heap.push { cls := .type "range", data := .fields #[.int lo t, .int hi u, .int 1 v] }, toks := tk } := I.kept fun b o e => Heap.get?_push_of_some _ e
  refine ⟨(s.heap.push { cls := .type "range", data := .fields #[.int lo t, .int hi u, .int 1 v] }).objs.size, [(s.heap.push { cls := .type "range", data := .fields #[.int lo t, .int hi u, .int 1 v] }).objs.size], _, _, H, rfl,
    I1.kept (t' := tk) fun b o e => Heap.get?_push_of_some _ e, turn_range _ lo (hi - lo).toNat, ?_, fun b hb => ?_, q⟩
  · have e1 : lo + ((0 : Nat) : Int) * 1 = lo := by simp
    have e2 : (((hi - lo).toNat : Nat) : Int) - ((0 : Nat) : Int) = Builtin.Range.rangeSize lo hi 1 := by rw [rangeSize_one]; split <;> omega
    show IsRangeIter _ _ (lo + ((0 : Nat) : Int) * 1) ((((hi - lo).toNat : Nat) : Int) - ((0 : Nat) : Int)) 1
    rw [e1, e2]
    exact Heap.get?_push_size _ rfl
  · have e : b = (s.heap.push { cls := .type "range", data := .fields #[.int lo t, .int hi u, .int 1 v] }).objs.size := by simpa using hb
    subst e
    exact I1.fpOk (Nat.le_refl _) (I1.hok.fresh (Nat.le_refl _))
noncomputable def iRng1 (ta : TA) : TI := fun σ H R => ta σ H fun vs H1 => ∃ j : Int, vs = [.int j] ∧ -(2 ^ 62) ≤ j ∧ j < 2 ^ 62 ∧ R (Itr 0 j.toNat) H1
theorem pi_range1 {a : Expr} {ta : TA} {p pos : Pos} (hg : Gl X "range") (hm : X.mg "range" = none) (ha : PA X [a] ta) (hs : starEach [a] X.env = [(false, eval a X.env)] := by rfl) : PI X tg (.Call (.Name "range" p) [a] [] pos) (iRng1 ta) := by
  intro pins s σ H R I h
  refine Call_ (ld_blt I hg hm boot_range (PyProof.Rows.callWith_type1 (thn (ha pos pins s σ H _ I h) fun us s1 ⟨vs, H1, I1, r1, q1⟩ => ?_) hs rfl))
  obtain ⟨j, e, q1, q2, q⟩ := q1
  subst e
  cases r1 with
  | cons r rr =>
    cases rr
    obtain ⟨t, rfl⟩ := r
    exact call_range_1 (range_it I1 (by omega) (by omega) q1 q2 (by simpa using q))
noncomputable def tFor (wi : TI) (g : TG) (tb : TS) : TS := fun D σ H => wi σ H fun J H1 => ∃ W : Nat → Nat → St → Hp → Prop, (∃ m, W 0 m σ H1) ∧ ∀ i m σ H, W i m σ H →
  (J.stop i H ∧ D.nx σ H) ∨ (J.go i H ∧ ∃ N : St → Hp → Prop, (∀ σ' H', N σ' H' → ∃ m', m' < m ∧ W (i + 1) m' σ' H') ∧ ∀ x H', J.yld i H x H' → g x σ H' fun σ2 H2 => tb { D with nx := N, ct := N, bk := D.nx } σ2 H2)
noncomputable def pinsAt (fp : List Addr) (h : Heap) : List (Addr × Obj) := fp.filterMap fun b => (h.get? b).map fun o => (b, o)
theorem mem_pinsAt {fp : List Addr} {h : Heap} {b : Addr} {o : Obj} (hb : b ∈ fp) (e : h.get? b = some o) : (b, o) ∈ pinsAt fp h := List.mem_filterMap.mpr ⟨b, hb, by rw [e]; rfl⟩
theorem of_pinsAt {fp : List Addr} {h : Heap} {p : Addr × Obj} (hp : p ∈ pinsAt fp h) : p.1 ∈ fp ∧ h.get? p.1 = some p.2 := by
  obtain ⟨b, hb, e⟩ := List.mem_filterMap.mp hp
  cases q : h.get? b with
  | none => rw [q] at e; cases e
  | some o =>
    rw [q] at e
    have e' : (b, o) = p := Option.some.inj e
    subst e'
    exact ⟨hb, q⟩
theorem Inv.pinned {pins : List (Addr × Obj)} {σ : St} {H : Hp} {s : Shared} {fp : List Addr} (I : Inv X pins σ H s) (hf : ∀ b ∈ fp, FpOk X pins H b) (ho : ∀ b ∈ fp, ∃ o, s.heap.get? b = some o ∧ ∀ v, o.data ≠ .cell v) : Inv X (pins ++ pinsAt fp s.heap) σ H s :=
  I.pins_of fun p hp => (List.mem_append.mp hp).elim (fun z => I.pin p (List.mem_append_right _ z)) fun z => by
    obtain ⟨hb, e⟩ := of_pinsAt z
    obtain ⟨f0, f1, f2, _⟩ := hf p.1 hb
    obtain ⟨o, e', d⟩ := ho p.1 hb
    rw [e] at e'; cases e'
    exact ⟨e, f0, f1, f2, d⟩
theorem Inv.unpinned {pins pl : List (Addr × Obj)} {σ : St} {H : Hp} {s : Shared} (I : Inv X (pins ++ pl) σ H s) : Inv X pins σ H s := I.pins_of fun p hp => I.pin p (List.mem_append_right _ (List.mem_append_left _ hp))
theorem ps_for {iter : Expr} {body : List Stmt} {wi : TI} {g : TG} {tb : TS} {pos : Pos} (hp : PassesOwn (model X.prog X.w) X.A X.env X.xe) (hc : X.calm = true) (hi : PI X tg iter wi) (hg : PG X tg g) (hb : PSs X body tb)
    (hs : ∀ x, foldedSetIterable iter X.env x = pure x := by intro _; rfl) : PS X (.For tg iter body [] pos) (tFor wi g tb) := by
  intro pins s σ H D I h
  refine wpAny_For (thn (hi pins s σ H _ I h) fun v s1 h1 => thn h1 fun itv s2 h2 => ?_) hs
  obtain ⟨it, fp, tn, J, H2, e, I2, T, st2, f2, W, ⟨m0, w0⟩, turn⟩ := h2
  subst e
  -- what stays true of the iterator's objects through the loop
  have stat : ∀ {H' : Hp}, (∀ b ∈ fp, H' b = none) → ∀ b ∈ fp, FpOk X pins H' b := fun hn b hb => ⟨hn b hb, (f2 b hb).2⟩
  refine codeAny_forLoop_any (fun n s' => ∃ i σ' H', Inv X pins σ' H' s' ∧ tn i s'.heap ∧ (∀ b ∈ fp, H' b = none) ∧ W i n σ' H') ?_ m0 ⟨0, σ, H2, I2, st2, fun b hb => (f2 b hb).1, w0⟩
  rintro n s3 ⟨i, σ3, H3, I3, st3, fr3, w3⟩
  rcases turn i n σ3 H3 w3 with ⟨stop, qn⟩ | ⟨go, N, hN, step⟩
  · refine wpAny_passesOwn hp (thn (T.done X rfl rfl rfl hc i pins s3 σ3 H3 X.xe I3 (stat fr3) st3 stop) fun r s4 ⟨hr, I4⟩ => ?_)
    subst hr
    exact wpAny_execs_nil ⟨σ3, H3, I4, qn⟩
  · refine wpAny_passesOwn hp (thn (T.item X rfl rfl rfl hc i pins s3 σ3 H3 X.xe I3 (stat fr3) st3 go) fun r s4 ⟨u, hr, h4⟩ => ?_)
    subst hr
    refine wpAny_passesOwn hp (thn h4 fun _ s5 ⟨x, H5, I5, r5, y5, st5, fr5⟩ => ?_)
    have I5' := I5.pinned (stat fr5) (T.obj _ _ st5)
    refine wpAny_passesOwn hp (thn (hg _ s5 σ3 H5 x u _ I5' r5 (step x H5 y5)) fun _ s6 ⟨σ6, H6, I6, q6⟩ => ?_)
    refine wpAny_passesOwn hp (thn (hb _ s6 σ6 H6 _ I6 q6) fun f s7 q7 => ?_)
    have again : ∀ {σ7 : St} {H7 : Hp}, Inv X (pins ++ pinsAt fp s5.heap) σ7 H7 s7 → N σ7 H7 → ∃ m, m < n ∧ ∃ i σ' H', Inv X pins σ' H' s7 ∧ tn i s7.heap ∧ (∀ b ∈ fp, H' b = none) ∧ W i m σ' H' := fun {σ7 H7} I7 n7 => by
      obtain ⟨m', hm, w7⟩ := hN σ7 H7 n7
      refine ⟨m', hm, i + 1, σ7, H7, I7.unpinned, T.keep _ _ _ st5 fun b hb o e => (I7.pin (b, o) (List.mem_append_right _ (List.mem_append_right _ (mem_pinsAt hb e)))).1, fun b hb => ?_, w7⟩
      obtain ⟨o, e, d⟩ := T.obj _ _ st5 b hb
      exact (I7.pin (b, o) (List.mem_append_right _ (List.mem_append_right _ (mem_pinsAt hb e)))).2.1
    cases f with
    | next => obtain ⟨σ7, H7, I7, n7⟩ := q7; exact again I7 n7
    | cont => obtain ⟨σ7, H7, I7, n7⟩ := q7; exact again I7 n7
    | brk => obtain ⟨σ7, H7, I7, q7⟩ := q7; exact ⟨σ7, H7, I7.unpinned, q7⟩
    | ret v => obtain ⟨x7, σ7, H7, I7, r7, q7⟩ := q7; exact ⟨x7, σ7, H7, I7.unpinned, r7, q7⟩
end
end L2
namespace L2
open PySem PySem.Spec PyProof.Rows
noncomputable abbrev R2 := V → V → Hp → VK → Prop
noncomputable def OpR (X : Cx) (f : Value → Value → Sem Value) (r : R2) : Prop :=
  ∀ (pins : List (Addr × Obj)) (s : Shared) (σ : St) (H : Hp) (x y : V) (v u : Value) (Q : VK), Inv X pins σ H s → RelV x v → RelV y u → r x y H Q →
    wpAny (model X.prog X.w) X.A (f v u) (EP X pins σ Q) X.xe s
noncomputable def UnR (X : Cx) (f : Value → Sem Value) (r : V → Hp → VK → Prop) : Prop :=
  ∀ (pins : List (Addr × Obj)) (s : Shared) (σ : St) (H : Hp) (x : V) (v : Value) (Q : VK), Inv X pins σ H s → RelV x v → r x H Q →
    wpAny (model X.prog X.w) X.A (f v) (EP X pins σ Q) X.xe s
noncomputable def CallR (X : Cx) (f : Value) (r : List V → Hp → VK → Prop) : Prop :=
  ∀ (pins : List (Addr × Obj)) (s : Shared) (σ : St) (H : Hp) (xs : List V) (us : List Value) (Q : VK), Inv X pins σ H s → Vals xs us → r xs H Q →
    wpAny (model X.prog X.w) X.A (call f us) (EP X pins σ Q) X.xe s
noncomputable def TruR (X : Cx) (r : V → Hp → (Bool → Hp → Prop) → Prop) : Prop :=
  ∀ (pins : List (Addr × Obj)) (s : Shared) (σ : St) (H : Hp) (x : V) (v : Value) (Q : Bool → Hp → Prop), Inv X pins σ H s → RelV x v → r x H Q →
    wpAny (model X.prog X.w) X.A (truthy v) (TP X pins σ Q) X.xe s
noncomputable def tOp (r : R2) (ta tb : TE) : TE := fun σ H Q => ta σ H fun x H1 => tb σ H1 fun y H2 => r x y H2 Q
noncomputable def tUn (r : V → Hp → VK → Prop) (ta : TE) : TE := fun σ H Q => ta σ H fun x H1 => r x H1 Q
noncomputable def rI (C : Int → Int → Prop) (g : Int → Int → V) : R2 := fun x y H Q => ∃ i j, x = .int i ∧ y = .int j ∧ C i j ∧ Q (g i j) H
noncomputable def rI0 (g : Int → Int → V) : R2 := fun x y H Q => ∃ i j, x = .int i ∧ y = .int j ∧ Q (g i j) H
noncomputable def rU (g : Int → V) : V → Hp → VK → Prop := fun x H Q => ∃ i, x = .int i ∧ Q (g i) H
section
variable {X : Cx} {a b c : Expr} {ta tb tc : TE} {pos : Pos}
theorem binT (ha : PE X a ta) (hb : PE X b tb) {pins : List (Addr × Obj)} {s : Shared} {σ : St} {H : Hp} {R : V → V → Hp → Prop} (I : Inv X pins σ H s)
    (h : ta σ H fun x H1 => tb σ H1 fun y H2 => R x y H2) {Q : Value → Shared → Prop} {f : Value → Value → Sem Value}
    (hf : ∀ v u s2 x y H2, Inv X pins σ H2 s2 → RelV x v → RelV y u → R x y H2 → wpAny (model X.prog X.w) X.A (f v u) Q X.xe s2) :
    wpAny (model X.prog X.w) X.A (eval a X.env) (fun v s₁ => wpAny (model X.prog X.w) X.A (eval b X.env) (fun u s₂ => wpAny (model X.prog X.w) X.A (f v u) Q X.xe s₂) X.xe s₁) X.xe s := by
  refine thn (ha pins s σ H _ I h) fun v s1 ⟨x, H1, I1, r1, q1⟩ => ?_
  refine thn (hb pins s1 σ H1 _ I1 q1) fun u s2 ⟨y, H2, I2, r2, q2⟩ => ?_
  exact hf v u s2 x y H2 I2 r1 r2 q2
theorem pe_op {op : Operator} {r : R2} (ho : OpR X (binaryOp op) r) (ha : PE X a ta) (hb : PE X b tb) : PE X (.BinOp a op b pos) (tOp r ta tb) := by
  intro pins s σ H Q I h
  exact wpAny_BinOp (binT ha hb I h fun v u s2 x y H2 I2 rx ry q => ho pins s2 σ H2 x y v u Q I2 rx ry q)
theorem pe_un {op : UnaryOp} {r : V → Hp → VK → Prop} (ho : UnR X (unaryOp op) r) (ha : PE X a ta) : PE X (.UnaryOp op a pos) (tUn r ta) := by
  intro pins s σ H Q I h
  exact UnaryOp_ (thn (ha pins s σ H _ I h) fun v s1 ⟨x, H1, I1, r1, q1⟩ => ho pins s1 σ H1 x v Q I1 r1 q1)
theorem opI {f : Value → Value → Sem Value} {C : Int → Int → Prop} {g : Int → Int → Int}
    (rule : ∀ (i j : Int) (t u : Tok) (s : Shared) (Q : Value → Shared → Prop) (E : Value → Shared → Prop), C i j → Q (.int (g i j) s.toks) { s with toks := s.toks + 1 } → wpAny (model X.prog X.w) X.A (f (.int i t) (.int j u)) Q E s) :
    OpR X f (rI C fun i j => .int (g i j)) := by
  intro pins s σ H x y v u Q I rx ry h
  obtain ⟨i, j, rfl, rfl, hc, q⟩ := h
  obtain ⟨t, rfl⟩ := rx
  obtain ⟨t', rfl⟩ := ry
  exact rule i j t t' s _ _ hc ⟨.int (g i j), H, I.tok _, ⟨_, rfl⟩, q⟩
theorem opI0 {f : Value → Value → Sem Value} {g : Int → Int → Int}
    (rule : ∀ (i j : Int) (t u : Tok) (s : Shared) (Q : Value → Shared → Prop) (E : Value → Shared → Prop), Q (.int (g i j) s.toks) { s with toks := s.toks + 1 } → wpAny (model X.prog X.w) X.A (f (.int i t) (.int j u)) Q E s) :
    OpR X f (rI0 fun i j => .int (g i j)) := by
  intro pins s σ H x y v u Q I rx ry h
  obtain ⟨i, j, rfl, rfl, q⟩ := h
  obtain ⟨t, rfl⟩ := rx
  obtain ⟨t', rfl⟩ := ry
  exact rule i j t t' s _ _ ⟨.int (g i j), H, I.tok _, ⟨_, rfl⟩, q⟩
theorem opB0 {f : Value → Value → Sem Value} {g : Int → Int → Bool}
    (rule : ∀ (i j : Int) (t u : Tok) (s : Shared) (Q : Value → Shared → Prop) (E : Value → Shared → Prop), Q (.bool (g i j)) s → wpAny (model X.prog X.w) X.A (f (.int i t) (.int j u)) Q E s) :
    OpR X f (rI0 fun i j => .bl (g i j)) := by
  intro pins s σ H x y v u Q I rx ry h
  obtain ⟨i, j, rfl, rfl, q⟩ := h
  obtain ⟨t, rfl⟩ := rx
  obtain ⟨t', rfl⟩ := ry
  exact rule i j t t' s _ _ ⟨.bl (g i j), H, I, rfl, q⟩
noncomputable def CMul (i j : Int) : Prop := (-(2 ^ 64) < i ∧ i < 2 ^ 64) ∨ (-(2 ^ 64) < j ∧ j < 2 ^ 64)
theorem CMul.ok {i j : Int} (h : CMul i j) : IntMulOk i j := by
  rcases h with ⟨h1, h2⟩ | ⟨h1, h2⟩
  · exact .of_left (intBits_le_64 h1 h2)
  · exact .of_right (intBits_le_64 h1 h2)
theorem op_add : OpR X (binaryOp .Add) (rI0 fun i j => .int (i + j)) := opI0 fun _ _ _ _ _ _ _ q => add_int q
theorem op_mul : OpR X (binaryOp .Mult) (rI CMul fun i j => .int (i * j)) := opI fun _ _ _ _ _ _ _ hc q => mul_int q hc.ok
theorem op_mod : OpR X (binaryOp .Mod) (rI (fun _ j => 0 < j) fun i j => .int (i % j)) := opI fun i j _ _ _ _ _ hc q => by
  have h1 : (0 : Int) < j := hc
  exact mod_int' (by omega) (by rw [Int.fmod_eq_emod_of_nonneg i (by omega)]; exact q)
theorem unI {f : Value → Sem Value} {g : Int → Int}
    (rule : ∀ (i : Int) (t : Tok) (s : Shared) (Q : Value → Shared → Prop) (E : Value → Shared → Prop), Q (.int (g i) s.toks) { s with toks := s.toks + 1 } → wpAny (model X.prog X.w) X.A (f (.int i t)) Q E s) :
    UnR X f (rU fun i => .int (g i)) := by
  intro pins s σ H x v Q I rx h
  obtain ⟨i, rfl, q⟩ := h
  obtain ⟨t, rfl⟩ := rx
  exact rule i t s _ _ ⟨.int (g i), H, I.tok _, ⟨_, rfl⟩, q⟩
theorem un_neg : UnR X (unaryOp .USub) (rU fun i => .int (-i)) := unI fun _ _ _ _ _ q => neg_int q
end
section
variable {X : Cx} {a b c : Expr} {ta tb tc : TE} {pos : Pos}
theorem fin_bl {pins : List (Addr × Obj)} {σ : St} {H : Hp} {s : Shared} {Q : VK} {k k' : Bool} (I : Inv X pins σ H s) (q : Q (.bl k) H) (e : k = k') : EP X pins σ Q (.bool k') s := by
  subst e
  exact ⟨.bl k, H, I, rfl, q⟩
theorem op_lt : OpR X (compareOp .Lt) (rI0 fun i j => .bl (decide (i < j))) := opB0 fun _ _ _ _ _ _ _ q => lt_int q
theorem op_le : OpR X (compareOp .LtE) (rI0 fun i j => .bl (decide (i ≤ j))) := opB0 fun _ _ _ _ _ _ _ q => le_int q
theorem op_gt : OpR X (compareOp .Gt) (rI0 fun i j => .bl (decide (j < i))) := opB0 fun _ _ _ _ _ _ _ q => gt_int q
theorem op_ge : OpR X (compareOp .GtE) (rI0 fun i j => .bl (decide (j ≤ i))) := opB0 fun _ _ _ _ _ _ _ q => ge_int q
theorem op_in_str : OpR X (compareOp .In) (fun x y H Q => ∃ i j, x = .str i ∧ y = .str j ∧ Q (.bl (!(Builtin.Str.occurrences j i 0 j.length 1).isEmpty)) H) := by
  intro pins s σ H x y v u Q I rx ry h
  obtain ⟨i, j, rfl, rfl, q⟩ := h
  obtain ⟨t, rfl⟩ := rx
  obtain ⟨t', rfl⟩ := ry
  exact in_str (fin_bl I q rfl)
theorem op_isN : OpR X (compareOp .Is) (fun x y H Q => y = .non ∧ Q (.bl (decide (x = .non))) H) := by
  intro pins s σ H x y v u Q I rx ry h
  obtain ⟨rfl, q⟩ := h
  cases ry
  refine is_none_gen (fin_bl I q ?_)
  cases x <;> first
    | (cases rx; rfl)
    | (obtain ⟨t, rfl⟩ := rx; rfl)
theorem OpR.or {f : Value → Value → Sem Value} {r r' : R2} (h : OpR X f r) (h' : OpR X f r') : OpR X f (fun x y H Q => r x y H Q ∨ r' x y H Q) := by
  intro pins s σ H x y v u Q I rx ry q
  rcases q with q | q
  · exact h pins s σ H x y v u Q I rx ry q
  · exact h' pins s σ H x y v u Q I rx ry q
theorem pe_cmpR {op : CmpOp} {r : R2} (ho : OpR X (compareOp op) r) (ha : PE X a ta) (hb : PE X b tb) (hm : behindInMarks op b = false) : PE X (.Compare a [op] [b] pos) (tOp r ta tb) := by
  intro pins s σ H Q I h
  exact wpAny_Compare1 (binT ha hb I h fun v u s2 x y H2 I2 rx ry q => ho pins s2 σ H2 x y v u Q I2 rx ry q) hm
noncomputable def tTest (t : TE) : TT := fun σ H Q => t σ H fun x H' => ∃ k, x = .bl k ∧ Q k H'
theorem pt_cmpR {op : CmpOp} {r : R2} (ho : OpR X (compareOp op) r) (ha : PE X a ta) (hb : PE X b tb) (hm : behindInMarks op b = false) : PT X (.Compare a [op] [b] pos) (tTest (tOp r ta tb)) := by
  intro pins s σ H Q I h
  refine wpAny_isTrue_Compare1 (thn (ha pins s σ H _ I h) fun v s1 ⟨x, H1, I1, r1, q1⟩ => thn (hb pins s1 σ H1 _ I1 q1) fun u s2 ⟨y, H2, I2, r2, q2⟩ =>
    thn (ho pins s2 σ H2 x y v u _ I2 r1 r2 q2) fun c s3 ⟨z, H3, I3, r3, k, e, q3⟩ => ?_) hm
  subst e
  cases r3
  exact wpAny_truthy_bool ⟨H3, I3, q3⟩
noncomputable def tChain (r r' : R2) (ta tb tc : TE) : TE := fun σ H Q => ta σ H fun x H1 => tb σ H1 fun y H2 => r x y H2 fun z H3 => ∃ k, z = .bl k ∧
  (if k = true then tc σ H3 fun w' H4 => r' y w' H4 Q else Q (.bl false) H3)
theorem pe_chain {op op' : CmpOp} {r r' : R2} (ho : OpR X (compareOp op) r) (ho' : OpR X (compareOp op') r') (ha : PE X a ta) (hb : PE X b tb) (hc : PE X c tc)
    (hm : lastMarks [op, op'] [b, c] = false := by with_unfolding_all rfl) : PE X (.Compare a [op, op'] [b, c] pos) (tChain r r' ta tb tc) := by
  intro pins s σ H Q I h
  refine Compare_chain (thn (ha pins s σ H _ I h) fun v s1 ⟨x, H1, I1, r1, q1⟩ => chain_link (thn (hb pins s1 σ H1 _ I1 q1) fun u s2 ⟨y, H2, I2, r2, q2⟩ =>
    thn (ho pins s2 σ H2 x y v u _ I2 r1 r2 q2) fun d s3 ⟨z, H3, I3, r3, k, e, q3⟩ => ?_)) hm
  subst e
  cases r3
  refine wpAny_truthy_bool ?_
  cases k with
  | false => exact ite_ff ⟨.bl false, H3, I3, rfl, q3⟩
  | true => exact ite_tt (chain_last (thn (hc pins s3 σ H3 _ I3 q3) fun w' s4 ⟨z', H4, I4, r4, q4⟩ => ho' pins s4 σ H4 y z' u w' Q I4 r2 r4 q4))
noncomputable def TruV (K : PySem.W.Frag) (x : V) (H : Hp) (k : Bool) : Prop :=
  match x with
  | .non => k = false
  | .bl b => k = b
  | .int i => k = (i != 0)
  | .str y => y.length ≤ sizeLine ∧ k = ((y.length : Int) != 0)
  | .byt y => y.size ≤ sizeLine ∧ k = ((y.size : Int) != 0)
  | .ref p => (∃ xs, SqL K H p xs ∧ k = !xs.isEmpty) ∨ (∃ xs, SqT K H p xs ∧ k = !xs.isEmpty) ∨ ∃ kvs, H p = some (.dK kvs) ∧ k = !kvs.isEmpty
  | _ => False
theorem isEmpty_kv {κ : Type} {kvs : List (κ × V)} {vs : List (κ × Value)} (r : KV kvs vs) : (!vs.isEmpty) = !kvs.isEmpty := by
  cases r <;> rfl
theorem isEmpty_of {xs : List V} {its : List Value} (r : Vals xs its) : (!its.toArray.isEmpty) = !xs.isEmpty := by
  cases r <;> simp
theorem line63 : (sizeLine : Nat) < 2 ^ 63 := by rw [sizeLine_eq]; decide
theorem tru_ok : TruR X (fun x H Q => ∃ k, TruV X.K x H k ∧ Q k H) := by
  intro pins s σ H x v Q I rx h
  obtain ⟨k, e, q⟩ := h
  have hl := line63
  have hs : sizeLine = 16777216 := sizeLine_eq
  cases x with
  | non =>
    cases rx
    have e' : k = false := e
    subst e'
    exact truthy_none ⟨H, I, q⟩
  | bl b =>
    cases rx
    have e' : k = b := e
    subst e'
    exact wpAny_truthy_bool ⟨H, I, q⟩
  | int i =>
    obtain ⟨t, rfl⟩ := rx
    have e' : k = (i != 0) := e
    subst e'
    exact PySem.P.truthy_int ⟨H, I, q⟩
  | str y =>
    obtain ⟨t, rfl⟩ := rx
    obtain ⟨hy, e'⟩ : y.length ≤ sizeLine ∧ k = ((y.length : Int) != 0) := e
    subst e'
    exact PySem.P.truthy_str (by omega) ⟨H, I.tok _, q⟩
  | byt y =>
    obtain ⟨t, rfl⟩ := rx
    obtain ⟨hy, e'⟩ : y.size ≤ sizeLine ∧ k = ((y.size : Int) != 0) := e
    subst e'
    exact PySem.W.truthy_bytes (by omega) ⟨H, I.tok _, q⟩
  | ref p =>
    cases rx
    have e' : (∃ xs, SqL X.K H p xs ∧ k = !xs.isEmpty) ∨ (∃ xs, SqT X.K H p xs ∧ k = !xs.isEmpty) ∨ ∃ kvs, H p = some (.dK kvs) ∧ k = !kvs.isEmpty := e
    rcases e' with ⟨xs, hx, e'⟩ | ⟨xs, hx, e'⟩ | ⟨kvs, hx, e'⟩
    · subst e'
      obtain ⟨its, r, pl, hz⟩ := I.list hx
      have hlen := r.length
      exact wpAny_truthy_list pl.isList (by simp only [List.size_toArray]; omega) ⟨H, I.tok _, by rw [isEmpty_of r]; exact q⟩
    · subst e'
      obtain ⟨its, r, pl, hz⟩ := I.tuple hx
      have hlen := r.length
      exact truthy_tuple pl (by simp only [List.size_toArray]; omega) ⟨H, I.tok _, by rw [isEmpty_of r]; exact q⟩
    · subst e'
      obtain ⟨hz, hS, vs, r, m⟩ : kvs.length ≤ sizeLine ∧ (p == sysModules) = false ∧ ∃ vs, KV kvs vs ∧ s.heap.DictOf (mixKind X.prog X.w) p vs := I.hok p _ hx
      have hlen : kvs.length = vs.length := Paired.length r
      exact wpAny_truthy_dict hS m (by omega) ⟨H, I.tok _, by rw [isEmpty_kv r]; exact q⟩
  | _ => exact (show False from e).elim
theorem pt_truth (ha : PE X a ta) (he : ∀ whole, isTrue a X.env whole = (do let v ← whole; standAt a.pos; holding [v] (truthy v))) :
    PT X a (fun σ H Q => ta σ H fun x H' => ∃ k, TruV X.K x H' k ∧ Q k H') := by
  intro pins s σ H Q I h
  exact isTrue_plain (thn (ha pins s σ H _ I h) fun v s1 ⟨x, H1, I1, r1, q1⟩ => tru_ok pins s1 σ H1 x v Q I1 r1 q1) (he _)
theorem op_add_str : OpR X (binaryOp .Add) (fun x y H Q => ∃ i j, x = .str i ∧ y = .str j ∧ i.length + j.length ≤ sizeLine ∧ Q (.str (i ++ j)) H) := by
  intro pins s σ H x y v u Q I rx ry h
  obtain ⟨i, j, rfl, rfl, hz, q⟩ := h
  obtain ⟨t, rfl⟩ := rx
  obtain ⟨t', rfl⟩ := ry
  exact add_str (fun t' tk => ⟨.str (i ++ j), H, I.tok _, ⟨_, rfl⟩, q⟩) hz
theorem vals1 {x : V} {us : List Value} (r : Vals [x] us) : ∃ u, us = [u] ∧ RelV x u := by
  cases r with
  | cons r1 r2 => cases r2; exact ⟨_, rfl, r1⟩
theorem vals2 {x y : V} {us : List Value} (r : Vals [x, y] us) : ∃ u w', us = [u, w'] ∧ RelV x u ∧ RelV y w' := by
  cases r with
  | cons r1 r2 =>
    cases r2 with
    | cons r3 r4 => cases r4; exact ⟨_, _, rfl, r1, r3⟩
theorem call_max2 (hc : X.calm = true) : CallR X (.builtin "max") (fun xs H Q => ∃ i j, xs = [.int i, .int j] ∧ Q (.int (if j > i then j else i)) H) := by
  intro pins s σ H xs us Q I r h
  obtain ⟨i, j, rfl, q⟩ := h
  obtain ⟨u, w', rfl, ⟨t, rfl⟩, ⟨t', rfl⟩⟩ := vals2 r
  refine max_two_ints (I.ok.hd hc) fun h' tk k => ⟨_, H, I.kept k, ?_, q⟩
  by_cases hj : j > i
  · rw [if_pos hj, if_pos hj]; exact ⟨_, rfl⟩
  · rw [if_neg hj, if_neg hj]; exact ⟨_, rfl⟩
noncomputable def LenV (K : PySem.W.Frag) (x : V) (H : Hp) (n : Nat) : Prop :=
  match x with
  | .str y => y.length ≤ sizeLine ∧ n = y.length
  | .byt y => y.size ≤ sizeLine ∧ n = y.size
  | .ref p => (∃ xs, SqL K H p xs ∧ n = xs.length) ∨ ∃ xs, SqT K H p xs ∧ n = xs.length
  | _ => False
theorem call_len : CallR X (.builtin "len") (fun xs H Q => ∃ x n, xs = [x] ∧ LenV X.K x H n ∧ Q (.int n) H) := by
  intro pins s σ H xs us Q I r h
  obtain ⟨x, n, rfl, e, q⟩ := h
  obtain ⟨u, rfl, rx⟩ := vals1 r
  have hl := line63
  have hs : sizeLine = 16777216 := sizeLine_eq
  cases x with
  | str y =>
    obtain ⟨t, rfl⟩ := rx
    obtain ⟨hy, e'⟩ : y.length ≤ sizeLine ∧ n = y.length := e
    subst e'
    exact len_str (by omega) ⟨.int _, H, I.tok _, ⟨_, rfl⟩, q⟩
  | byt y =>
    obtain ⟨t, rfl⟩ := rx
    obtain ⟨hy, e'⟩ : y.size ≤ sizeLine ∧ n = y.size := e
    subst e'
    exact PySem.W.len_bytes (by omega) ⟨.int _, H, I.tok _, ⟨_, rfl⟩, q⟩
  | ref p =>
    cases rx
    have e' : (∃ xs, SqL X.K H p xs ∧ n = xs.length) ∨ ∃ xs, SqT X.K H p xs ∧ n = xs.length := e
    rcases e' with ⟨xs, hx, e'⟩ | ⟨xs, hx, e'⟩
    · subst e'
      obtain ⟨its, r', pl, hz⟩ := I.list hx
      have hlen := r'.length
      exact Calls.call_len_list pl.isList (by simp only [List.size_toArray]; omega) ⟨.int xs.length, H, I.tok _, ⟨_, by simp only [List.size_toArray]; rw [hlen]⟩, q⟩
    · subst e'
      obtain ⟨its, r', pl, hz⟩ := I.tuple hx
      have hlen := r'.length
      exact len_tuple pl (by simp only [List.size_toArray]; omega) ⟨.int xs.length, H, I.tok _, ⟨_, by simp only [List.size_toArray]; rw [hlen]⟩, q⟩
  | _ => exact (show False from e).elim
end
end L2
namespace L2
open PySem PySem.Spec PyProof.Rows
section
variable {prog : Program} {w : World} {A : Around} {E : Value → Shared → Prop} {s : Shared} {K : PySem.W.Frag} {x dx C f : Addr} {mA : Str → Option Value} {name : Str} {v : Value}
end
theorem RelO.some_of {v : V} {o : Option Value} (r : RelO (some v) o) : ∃ u, o = some u ∧ RelV v u := by
  cases o with
  | none => exact (show False from r).elim
  | some u => exact ⟨u, rfl, r⟩
section
variable {P : Program} {w : World} {H H' : Hp} {h h' : Heap} {a C dx : Addr} {fs fs' : List (Str × V)}
end
section
variable {X : Cx} {pins : List (Addr × Obj)} {σ : St} {H : Hp} {s : Shared} {a C dx : Addr} {fs : List (Str × V)} {f : Str} {v : V} {A : Around} {E : Value → Shared → Prop}
end
section
variable {X : Cx} {o e value : Expr} {f : Str} {pos pos' tpos : Pos} {ta tv : TE}
end
section
variable {X : Cx} {pins : List (Addr × Obj)} {σ : St} {H : Hp} {s : Shared} {A : Around} {E : Value → Shared → Prop} {Q : Value → Shared → Prop} {c : Value} {b : Bool}
end
end L2
namespace L2
open PySem PySem.Spec PyProof.Rows
structure Room (k : Nat) (A : Around) : Prop where
  hd : A.handled = none
  dp : A.depth + 3 * k + 5 < recursionLimit
  un : A.units + 16 * k + 200 < cLine
theorem Room.deeper {k : Nat} {A : Around} (r : Room (k + 1) A) (env : Env) : Room k (A.deeper env) :=
  ⟨r.hd, by have := r.dp; show A.depth + 1 + 3 * k + 5 < _; omega, by have := r.un; show A.units + 3 + 16 * k + 200 < _; omega⟩
theorem Room.depth {k : Nat} {A : Around} (r : Room k A) : A.depth < recursionLimit := by have := r.dp; omega
noncomputable def tNil : TA := fun _ H Q => Q [] H
noncomputable def tCons (ta : TE) (tr : TA) : TA := fun σ H Q => ta σ H fun x H1 => tr σ H1 fun xs H2 => Q (x :: xs) H2
section
variable {X : Cx} {e : Expr} {es : List Expr} {te : TE} {t : TA} {pos : Pos}
theorem pa_nil : PA X [] tNil := fun _ _ _ _ H Q I h => Calls.spliced_nil ⟨[], H, I, .nil, h⟩
theorem pa_cons (ha : PE X e te) (hr : PA X es t) (hs : starEach (e :: es) X.env = (false, eval e X.env) :: starEach es X.env := by rfl) : PA X (e :: es) (tCons te t) := by
  intro pos pins s σ H Q I h
  rw [hs]
  show wpAny _ _ (spliced ((false, eval e X.env) :: backTo pos (starEach es X.env))) _ _ s
  refine Calls.spliced_cons (thn (ha pins s σ H _ I h) fun u s1 ⟨x, H1, I1, r1, q1⟩ => ?_)
  exact thn (hr pos pins s1 σ H1 _ I1 q1) fun us s2 ⟨xs, H2, I2, r2, q2⟩ => ⟨x :: xs, H2, I2, .cons r1 r2, q2⟩
noncomputable def tTup (t : TA) : TE := fun σ H Q => t σ H fun xs H1 => xs.length ≤ sizeLine ∧ ∀ p, H1 p = none → Q (.ref p) (upd H1 p (.tup xs))
noncomputable def tLst (t : TA) : TE := fun σ H Q => t σ H fun xs H1 => xs.length ≤ sizeLine ∧ ∀ p, H1 p = none → Q (.ref p) (upd H1 p (.lst xs))
theorem pe_tup {x1} (h : PA X es t) : PE X (.Tuple es x1 pos) (tTup t) := by
  intro pins s σ H Q I hq
  refine wpAny_Tuple_spliced (thn (h pos pins s σ H _ I hq) fun us s1 ⟨xs, H1, I1, r, z, q⟩ => ⟨by rw [← r.length]; exact z, ?_⟩)
  have hf : H1 s1.heap.objs.size = none := I1.hok.fresh (Nat.le_refl _)
  refine ⟨.ref s1.heap.objs.size, upd H1 s1.heap.objs.size (.tup xs), I1.laid (t' := s1.toks) (fun b u e => Heap.get?_push_of_some _ e) (Nat.le_refl _) ?_, rfl, q _ hf⟩
  exact ⟨z, us, r, ⟨⟨_, Heap.get?_push_size _ rfl, rfl, _, rfl⟩, _, Heap.get?_push_size _ rfl, rfl⟩⟩
theorem pe_lst (h : PA X es t) : PE X (.List es pos) (tLst t) := by
  intro pins s σ H Q I hq
  refine wpAny_List_spliced (thn (h pos pins s σ H _ I hq) fun us s1 ⟨xs, H1, I1, r, z, q⟩ => ⟨by rw [← r.length]; exact z, ?_⟩)
  have hf : H1 s1.heap.objs.size = none := I1.hok.fresh (Nat.le_refl _)
  refine ⟨.ref s1.heap.objs.size, upd H1 s1.heap.objs.size (.lst xs), I1.laid (t' := s1.toks) (fun b u e => Heap.get?_push_of_some _ e) (Nat.le_refl _) ?_, rfl, q _ hf⟩
  exact ⟨z, us, 0, r, Heap.get?_push_size _ rfl⟩
end
noncomputable abbrev Sp := List V → Hp → VK → XK → Prop
noncomputable abbrev CXT := List Env → Hp → Shared → XK → Value → Shared → Prop
structure Env0 (P : Program) (w : World) (K : PySem.W.Frag) (mg : Str → Option Value) (base : Heap) (A : Around) (outer : List Env) (s : Shared) (H : Hp) : Prop where
  frames : A.frames = some outer
  mod : Mod K mg base
  bs : ∀ b o, base.get? b = some o → s.heap.get? b = some o ∧ H b = none
  bsz : base.objs.size ≤ s.heap.objs.size
  funs : s.heap.FunFrames base outer
  frf : ∀ b ∈ frs outer, H b = none
  hok : HOk P w H s.heap
  bare : AllBare s.gens
noncomputable def CE (outer : List Env) (P : Program) (w : World) (H : Hp) (s : Shared) (Q : VK) (u : Value) (s' : Shared) : Prop :=
  ∃ v H', s'.os = s.os ∧ AllBare s'.gens ∧ Un (frs outer) [] H H' s.heap s'.heap ∧ HOk P w H' s'.heap ∧ RelV v u ∧ Q v H'
noncomputable def CR (CX : CXT) (outer : List Env) (P : Program) (w : World) (H : Hp) (s : Shared) (Q : VK) (E : XK) (r : Result) (s' : Shared) : Prop :=
  match r with
  | .ok (.ret u) => CE outer P w H s Q u s'
  | .ok _ => False
  | .error e => CX outer H s E e s'
structure FnOk (P : Program) (w : World) (K : PySem.W.Frag) (mg : Str → Option Value) (base : Heap) (CX : CXT) (k : Nat) (f : Addr) (fd : FuncData) (ps : List Str) (sp : Sp) : Prop where
  len : ∀ vs H Q E, sp vs H Q E → vs.length = ps.length
  run : ∀ (A : Around) (outer : List Env) (s : Shared) (H : Hp) (args : Args) (us : List Value) (vs : List V) (Q : VK) (E : XK), Room k A → Env0 P w K mg base A outer s H → BindsTo s fd args (ps.zip us) → Vals vs us → sp vs H Q E →
    codeAny (model P w) A (.call (.ref f) args) (CR CX outer P w H s Q E) s
section
variable {X : Cx} {pins : List (Addr × Obj)} {σ : St} {H : Hp} {s s' : Shared}
theorem Inv.env0 (I : Inv X pins σ H s) : Env0 X.prog X.w X.K X.mg X.base X.A X.stack s H :=
  ⟨I.ok.frames, I.ok.mod, I.bs, Nat.le_trans I.ok.bsz I.sz, I.stack, I.stkFree, I.hok, I.bare⟩
theorem Inv.after {Q : VK} {u : Value} (I : Inv X pins σ H s) (h : CE X.stack X.prog X.w H s Q u s') : EP X pins σ Q u s' := by
  obtain ⟨v, H', os, bare, un, hok, r, q⟩ := h
  obtain ⟨hh, g, d, t, os'⟩ := s'
  obtain rfl : os' = s.os := os
  exact ⟨v, H', I.call (h' := hh) (g' := g) (d' := d) (t' := t) (ch := []) un hok bare (fun b z => absurd z (by simp)), r, q⟩
end
noncomputable def tCall (sp : Sp) (dvs : List V) (E : XK) (t : TA) : TE := fun σ H Q => t σ H fun vs H1 => sp (vs ++ dvs) H1 Q E
noncomputable def Binds (K : PySem.W.Frag) (fd : FuncData) (ps : List Str) (ds : List Value) : Prop :=
  ∀ (s : Shared) (us : List Value), K.In s.heap → (us ++ ds).length = ps.length → BindsTo s fd ⟨us, []⟩ (ps.zip (us ++ ds))
theorem Binds.all {K : PySem.W.Frag} {fd : FuncData} {ps : List Str} (h : ∀ us : List Value, us.length = ps.length → bindArgs fd ⟨us, []⟩ = pure (ps.zip us)) : Binds K fd ps [] := fun s us _ hl => by
  rw [List.append_nil] at hl ⊢
  exact .of_eq (h us hl)
noncomputable def Passes (CX : CXT) (X : Cx) (E : XK) : Prop := ∀ (pins : List (Addr × Obj)) (σ : St) (H : Hp) (s : Shared) (e : Value) (s' : Shared), Inv X pins σ H s → CX X.stack H s E e s' → X.xe e s'
section
variable {X : Cx} {CX : CXT} {k : Nat} {f C : Addr} {fd : FuncData} {ps : List Str} {sp : Sp} {dvs : List V} {ds : List Value} {E : XK} {x m : Str} {p pos apos : Pos} {e o : Expr} {es : List Expr} {ta : TE} {t : TA}
theorem run_fn {pins : List (Addr × Obj)} {σ : St} {H : Hp} {s : Shared} {Q : VK} {us : List Value} {vs : List V} (F : FnOk X.prog X.w X.K X.mg X.base CX k f fd ps sp) (hr : Room k X.A) (hb : Binds X.K fd ps ds) (hd : Vals dvs ds) (hx : Passes CX X E)
    (I : Inv X pins σ H s) (r : Vals vs us) (h : sp (vs ++ dvs) H Q E) : wpAny (model X.prog X.w) X.A (call (.ref f) us) (EP X pins σ Q) X.xe s := by
  have r2 : Vals (vs ++ dvs) (us ++ ds) := r.append hd
  have hl : (us ++ ds).length = ps.length := by rw [← r2.length]; exact F.len _ _ _ _ h
  refine wpAny_call (codeAny_mono (F.run X.A X.stack s H ⟨us, []⟩ (us ++ ds) (vs ++ dvs) Q E hr I.env0 (hb s us I.kIn hl) r2 h) fun r s' hq => ?_)
  cases r with
  | error e => exact hx pins σ H s e s' I hq
  | ok fl =>
    cases fl with
    | ret u => exact I.after hq
    | next => exact False.elim hq
    | brk => exact False.elim hq
    | cont => exact False.elim hq
theorem pe_call (F : FnOk X.prog X.w X.K X.mg X.base CX k f fd ps sp) (hr : Room k X.A) (hg : Gl X x) (hm : X.mg x = some (.ref f)) (hk : PySem.W.keepIn X.K (.ref f) = true) (hb : Binds X.K fd ps ds) (hd : Vals dvs ds) (hx : Passes CX X E)
    (ha : PA X (e :: es) t) (hdb : (x == ("__debug__" : Str)) = false := by decide) (he : starEach (e :: es) X.env = (false, eval e X.env) :: starEach es X.env := by rfl) (hpl : (backTo pos (starEach es X.env)).any (·.1) = false := by rfl) :
    PE X (.Call (.Name x p) (e :: es) [] pos) (tCall sp dvs E t) := by
  intro pins s σ H Q I h
  refine wpAny_Call_Name_kw (ld_glob I hg hm ?_ hdb)
  refine PySem.W.callWith_K (h₀ := X.base) I.ok.mod.kin hk (thn (ha pos pins s σ H _ I h) fun us s1 ⟨vs, H1, I1, r, q⟩ => ⟨I1.kIn, ?_⟩) he hpl
  exact run_fn F hr hb hd hx I1 r q
end
section
variable {X : Cx} {CX : CXT} {k : Nat} {f C : Addr} {fd : FuncData} {ps ks : List Str} {sp : Sp} {E : XK} {x m : Str} {p pos apos kpos : Pos} {e o : Expr} {es : List Expr} {kws : List Keyword} {te ta : TE} {t tk : TA} {nm : Option Str}
variable {g : List Value → List Value → List Value} {gV : List V → List V → List V}
end
structure FnScope (N P : List Str) (sc : Scope) : Prop where
  kind : sc.kind = .function
  co : sc.isCoroutine = false
  gen : sc.isGenerator = false
  nd : N.Nodup
  pre : N.take P.length = P
  par : ∀ x ∈ P, sc.names.lookup x = some .local ∨ sc.names.lookup x = some .cell
  nofree : ∀ y ∈ sc.names, y.2 ≠ .free
theorem bindL_out {kindOf : Str → Option NameKind} {x : Str} : ∀ {binds : List (Str × Value)} {m : Str → Option Value}, (∀ v, (x, v) ∉ binds) → bindL kindOf binds m x = m x
  | [], _, _ => rfl
  | (n, v) :: r, m, h => by
    unfold bindL
    rw [bindL_out fun w hw => h w (List.mem_cons_of_mem _ hw)]
    split
    · have : x ≠ n := by rintro rfl; exact h v List.mem_cons_self
      simp [this]
    · rfl
theorem bindC_out {kindOf : Str → Option NameKind} {x : Str} : ∀ {binds : List (Str × Value)} {m : Str → Option Value}, (∀ v, (x, v) ∉ binds) → bindC kindOf binds m x = m x
  | [], _, _ => rfl
  | (n, v) :: r, m, h => by
    unfold bindC
    rw [bindC_out fun w hw => h w (List.mem_cons_of_mem _ hw)]
    split
    · rfl
    · have : x ≠ n := by rintro rfl; exact h v List.mem_cons_self
      simp [this]
theorem bindL_get {kindOf : Str → Option NameKind} {x : Str} {v : Value} : ∀ {P : List Str} {vs : List Value} {i : Nat} {m : Str → Option Value}, P.Nodup → P[i]? = some x → vs[i]? = some v → kindOf x = some .local →
    bindL kindOf (P.zip vs) m x = some v
  | [], _, _, _, _, h, _, _ => by simp at h
  | _ :: _, [], _, _, _, _, h, _ => by simp at h
  | p :: P, w :: vs, 0, m, nd, h1, h2, hk => by
    simp at h1 h2; subst h1; subst h2
    show bindL kindOf ((p, w) :: P.zip vs) m p = _
    unfold bindL
    rw [bindL_out fun v hv => (List.nodup_cons.mp nd).1 (List.of_mem_zip hv).1, if_pos hk]
    simp
  | p :: P, w :: vs, i + 1, m, nd, h1, h2, hk => by
    show bindL kindOf ((p, w) :: P.zip vs) m x = _
    unfold bindL
    exact bindL_get (i := i) (List.nodup_cons.mp nd).2 (by simpa using h1) (by simpa using h2) hk
theorem bindC_get {kindOf : Str → Option NameKind} {x : Str} {v : Value} : ∀ {P : List Str} {vs : List Value} {i : Nat} {m : Str → Option Value}, P.Nodup → P[i]? = some x → vs[i]? = some v → kindOf x ≠ some .local →
    bindC kindOf (P.zip vs) m x = some v
  | [], _, _, _, _, h, _, _ => by simp at h
  | _ :: _, [], _, _, _, _, h, _ => by simp at h
  | p :: P, w :: vs, 0, m, nd, h1, h2, hk => by
    simp at h1 h2; subst h1; subst h2
    show bindC kindOf ((p, w) :: P.zip vs) m p = _
    unfold bindC
    rw [bindC_out fun v hv => (List.nodup_cons.mp nd).1 (List.of_mem_zip hv).1, if_neg hk]
    simp
  | p :: P, w :: vs, i + 1, m, nd, h1, h2, hk => by
    show bindC kindOf ((p, w) :: P.zip vs) m x = _
    unfold bindC
    exact bindC_get (i := i) (List.nodup_cons.mp nd).2 (by simpa using h1) (by simpa using h2) hk
noncomputable def start (N : List Str) (vs : List V) : St := vs.map some ++ List.replicate (N.length - vs.length) none
noncomputable def cxOf (CX : CXT) (P : Program) (w : World) (K : PySem.W.Frag) (mg : Str → Option Value) (base : Heap) (N : List Str) (qual : Str) (scope : Scope) (f : Addr) (cd : Value) (A : Around) (outer : List Env) (s : Shared) (H : Hp) (E : XK) : Cx where
  prog := P
  w := w
  K := K
  mg := mg
  base := base
  A := A.deeper (envOfC qual scope s.heap.objs.size f cd)
  N := N
  s₀ := s
  H₀ := H
  env := envOfC qual scope s.heap.objs.size f cd
  outer := outer
  stack := envOfC qual scope s.heap.objs.size f cd :: outer
  ex := []
  calm := true
  fn := fun _ => true
  pn := []
  xe := fun e s' => wpAny (model P w) (A.deeper (envOfC qual scope s.heap.objs.size f cd)) (leaving (envOfC qual scope s.heap.objs.size f cd) e) (fun _ s'' => CX outer H s E e s'') (fun e' s'' => CX outer H s E e' s'') s'
theorem cell_has {sc : Scope} {n : Nat} {x : Str} (h : sc.names.lookup x = some .cell) : ∃ c, (cellsFrom n sc.names []).lookup x = some c := by
  have q := PySem.W.cellsFrom_some sc.names n [] (.inl h)
  exact Option.isSome_iff_exists.mp q
theorem inv_start {CX : CXT} {P : Program} {w : World} {K : PySem.W.Frag} {mg : Str → Option Value} {base : Heap} {N ps : List Str} {qual : Str} {scope : Scope} {f : Addr} {cd : Value} {A : Around} {outer : List Env} {s s1 : Shared} {H : Hp} {E : XK} {us : List Value} {vs : List V}
    (S : FnScope N ps scope) (hd : A.handled = none) (e0 : Env0 P w K mg base A outer s H) (hl : vs.length = ps.length) (r : Vals vs us)
    (x : InCallC s s.heap.objs.size (bindL (envOfC qual scope s.heap.objs.size f cd).kindOf (ps.zip us) fun _ => none) (cellsFrom (s.heap.objs.size + 1) scope.names []) (bindC (envOfC qual scope s.heap.objs.size f cd).kindOf (ps.zip us) fun _ => none) s1) :
    Inv (cxOf CX P w K mg base N qual scope f cd A outer s H E) [] (start N vs) H s1 := by
  have hpl : ps.length ≤ N.length := by have := congrArg List.length S.pre; rw [List.length_take] at this; omega
  obtain ⟨h1, tk, rfl, hk⟩ := x.done
  have noA : ∀ b : Addr, b ∉ (cxOf CX P w K mg base N qual scope f cd A outer s H E).ex := fun b z => absurd (show b ∈ ([] : List Addr) from z) (by simp)
  refine ⟨⟨e0.mod, S.kind, rfl, rfl, Nat.le_refl _, fun y z c h1 h2 => ?_, fun y hy => ?_, fun y c _ h => ?_, fun _ => hd, Around.frames_deeper e0.frames, .inr ⟨rfl, rfl⟩, fun b z => absurd z (noA b), e0.bs, e0.bsz, fun b _ _ => noA b, fun b z => absurd z (noA b), e0.funs, e0.frf⟩,
    rfl, e0.bare, Un.kept hk, ⟨_, x.toInCall.ns, fun i y v h1 h2 h3 => ?_⟩, fun y c h => ⟨_, x.cell y c h⟩, e0.hok.fresh (Nat.le_refl _), fun y c h => ?_, fun p hp => absurd (show p ∈ ([] : List (Addr × Obj)) from hp) (by simp), e0.hok.kept hk, ?_⟩
  · exact name_of_addr x.apart (PySem.mem_of_lookup h1) (PySem.mem_of_lookup h2)
  · have hy : scope.names.lookup y = some .cell ∨ scope.names.lookup y = some .free := hy
    rcases hy with hy | hy
    · exact cell_has hy
    · exact absurd rfl (S.nofree _ (PySem.mem_of_lookup hy))
  · exact Nat.le_of_lt (x.above y c (PySem.mem_of_lookup h))
  · have hi : i < vs.length := by
      unfold start at h2
      by_cases hi : i < vs.length
      · exact hi
      · rw [List.getElem?_append_right (by simpa using hi)] at h2
        rw [List.getElem?_replicate] at h2
        split at h2 <;> cases h2
    have ha : vs[i]? = some v := by
      unfold start at h2
      rw [List.getElem?_append_left (by simpa using hi), List.getElem?_map] at h2
      cases e : vs[i]? with
      | none => rw [e] at h2; cases h2
      | some a => rw [e] at h2; cases h2; rfl
    obtain ⟨u, hu, rv⟩ := r.get ha
    have hp : ps[i]? = some y := by
      rw [← S.pre, List.getElem?_take_of_lt (by omega)]; exact h1
    have ndP : ps.Nodup := by rw [← S.pre]; exact S.nd.sublist (List.take_sublist _ _)
    refine ⟨u, rv, ?_⟩
    rcases S.par y (List.mem_of_getElem? hp) with k | k
    · exact .inl ⟨k, bindL_get ndP hp hu k⟩
    · obtain ⟨c, e⟩ := cell_has (n := s.heap.objs.size + 1) k
      refine .inr ⟨.inl k, c, e, ?_⟩
      have q := x.cell y c e
      rw [bindC_get ndP hp hu (by show scope.names.lookup y ≠ _; rw [k]; decide)] at q
      exact q
  · exact e0.hok.fresh (Nat.le_of_lt (x.above y c (PySem.mem_of_lookup h)))
  · unfold start
    show _ = N.length
    rw [List.length_append, List.length_map, List.length_replicate]
    omega
theorem fn_of {CX : CXT} {P : Program} {w : World} {K : PySem.W.Frag} {mg : Str → Option Value} {base : Heap} {k : Nat} {f : Addr} {name qual : Str} {params : Arguments} {body : List Stmt} {scope : Scope} {dV kV doc pm cdv ct oc : Value} {an od : Option Addr}
    {osl : Array (Option Value)} {N ps : List Str} {sp : Sp} (lk : K.lookup f = some ⟨oc, od, .func (PySem.W.fnOf name qual params body scope dV kV doc pm an cdv ct), osl⟩) (hcd : PySem.W.codeIn K cdv qual = true) (S : FnScope N ps scope)
    (len : ∀ vs H Q E, sp vs H Q E → vs.length = ps.length)
    (hbody : ∀ (A : Around) (outer : List Env) (s : Shared) (H : Hp) (vs : List V) (Q : VK) (E : XK), Room k (A.deeper (envOfC qual scope s.heap.objs.size f cdv)) → sp vs H Q E →
      ∃ t, PSs (cxOf CX P w K mg base N qual scope f cdv A outer s H E) body t ∧ t { nx := fun _ H' => Q .non H', rt := Q } (start N vs) H) :
    FnOk P w K mg base CX (k + 1) f (PySem.W.fnOf name qual params body scope dV kV doc pm an cdv ct) ps sp := by
  refine ⟨len, fun A outer s H args us vs Q E hr e0 hb r hsp => ?_⟩
  have hl := len _ _ _ _ hsp
  have KX : K.In s.heap := e0.mod.kin.keeps fun b o e => (e0.bs b o e).1
  have lim : s.heap.NoLimit := e0.mod.nolimit.keeps fun b o e => (e0.bs b o e).1
  have hkind : ∀ y ∈ ps.zip us, scope.names.lookup y.1 = some .local ∨ (scope.names.lookup y.1 = some .cell ∧ ((cellsFrom (s.heap.objs.size + 1) scope.names []).lookup y.1).isSome = true) := fun ⟨n, v⟩ hy => by
    rcases S.par n (List.of_mem_zip hy).1 with q | q
    · exact .inl q
    · exact .inr ⟨q, PySem.W.cellsFrom_some _ _ _ (.inl q)⟩
  refine codeAny_call_function hr.depth (KX _ _ lk) rfl S.co S.gen rfl (PySem.W.codeRec_of KX hcd) (hb _ _ _ _ ?_)
  refine wpAny_newFunctionEnv_cells S.kind hkind fun env he s1 x => ?_
  subst he
  refine ⟨lim.keeps x.toInCall.keep, codeAny_func ?_⟩
  obtain ⟨t, ht, hq⟩ := hbody A outer s H vs Q E (hr.deeper _) hsp
  have I : Inv (cxOf CX P w K mg base N qual scope f cdv A outer s H E) [] (start N vs) H s1 := inv_start S hr.hd e0 hl r x
  refine wpAny_mono (ht [] s1 (start N vs) H _ I hq) (fun fl s' hs => ?_) fun e s' hs => hs
  have fin : ∀ {σ' : St} {H' : Hp} {v : V} {u : Value}, Inv (cxOf CX P w K mg base N qual scope f cdv A outer s H E) [] σ' H' s' → RelV v u → Q v H' → CE outer P w H s Q u s' :=
    fun {σ' H' v u} J rv q => ⟨v, H', J.os, J.bare, J.base, J.hok, rv, q⟩
  cases fl with
  | ret u =>
    obtain ⟨v, σ', H', J, rv, q⟩ := hs
    exact fin J rv q
  | next =>
    obtain ⟨σ', H', J, q⟩ := hs
    exact fin (v := V.non) (u := Value.none) J rfl q
  | brk =>
    obtain ⟨_, _, _, q⟩ := hs
    exact False.elim q
  | cont =>
    obtain ⟨_, _, _, q⟩ := hs
    exact False.elim q
end L2
namespace L2
open PySem PySem.Spec PyProof.Rows
section
variable {X : Cx} {x : Str} {p pos : Pos} {e : Expr} {es : List Expr} {t : TA} {id T : String} {r : List V → Hp → VK → Prop}
noncomputable def tCB (r : List V → Hp → VK → Prop) (t : TA) : TE := fun σ H Q => t σ H fun vs H1 => r vs H1 Q
theorem pe_callB (hc : CallR X (.builtin id) r) (hg : Gl X x) (hm : X.mg x = none) (hv : bootBuiltins x = some (.builtin id)) (ha : PA X (e :: es) t) (hn : x ≠ "__name__" := by decide) (hdb : (x == ("__debug__" : Str)) = false := by decide)
    (he : starEach (e :: es) X.env = (false, eval e X.env) :: starEach es X.env := by rfl) (hpl : (backTo pos (starEach es X.env)).any (·.1) = false := by rfl) : PE X (.Call (.Name x p) (e :: es) [] pos) (tCB r t) := by
  intro pins s σ H Q I h
  refine wpAny_Call_Name_kw (ld_blt I hg hm hv ?_ hn hdb)
  exact PyProof.Rows.callWith_builtin1 (thn (ha pos pins s σ H _ I h) fun us s1 ⟨vs, H1, I1, r1, q1⟩ => hc pins s1 σ H1 vs us Q I1 r1 q1) he hpl
end
end L2
namespace HT
open PySem PyProof.Rows
section
open PySem.SeqAt
open PySem.AutoSeq1 (wpAny_loadPart')
open PySem.MeetsSeq PySem.MeetsSeq2 PySem.MeetsSeq3
end
section
variable {prog : Program} {w : World} {A : Around} {E : Value → Shared → Prop} {s : Shared}
theorem cat_tup {t b : Addr} {vs ws : List Value} {Q : Value → Shared → Prop} (ht : IsTup s.heap t vs.toArray) (hb : IsTup s.heap b ws.toArray) (hv : vs ≠ [])
    (h1 : ws = [] → Q (.ref t) s) (h2 : ws ≠ [] → Q (.ref s.heap.objs.size) { s with heap := s.heap.push { cls := .type "tuple", data := .seq (vs ++ ws).toArray } })
    (hsz : vs.length + ws.length ≤ sizeLine) : wpAny (model prog w) A (binaryOp .Add (.ref t) (.ref b)) Q E s := by
  obtain ⟨⟨cls, dd, data, sl⟩, ho, hc, n, hd⟩ := id ht
  obtain ⟨⟨cls2, dd2, data2, sl2⟩, ho2, hc2, n2, hd2⟩ := id hb
  simp only at hc hd hc2 hd2
  subst hc hd hc2 hd2
  have e : vs.toArray ++ ws.toArray = (vs ++ ws).toArray := by simp
  by_cases hw : ws = []
  · exact concat_meets ⟨_, ho, rfl⟩ ⟨_, ho2, rfl⟩ noFill_tuple_add seq_tuple_add PySem.F.slot_tuple_add PySem.F.entry_tuple_add (PySem.F.args_tuple_add_2 _ _)
      (tuple_addW1 t b vs.toArray ws.toArray n n2 dd dd2 sl sl2 (by simpa using hv) (by simp [hw])) ⟨ho, ho2, h1 hw⟩
  · refine concat_meets ⟨_, ho, rfl⟩ ⟨_, ho2, rfl⟩ noFill_tuple_add seq_tuple_add PySem.F.slot_tuple_add PySem.F.entry_tuple_add (PySem.F.args_tuple_add_2 _ _)
      (tuple_addW2 t b vs.toArray ws.toArray n n2 dd dd2 sl sl2 (by simpa using hv) (by simpa using hw) (by rw [List.size_toArray, List.size_toArray]; exact hsz)) ⟨ho, ho2, ?_⟩
    rw [e]
    exact h2 hw
noncomputable def sIx (n d : Nat) : Option Int → Nat
  | none => d
  | some v => if v < 0 then (v + (n : Int)).toNat else min v.toNat n
theorem sIx_le (n d : Nat) (hd : d ≤ n) (o : Option Int) : sIx n d o ≤ n := by
  cases o with
  | none => exact hd
  | some v =>
    show (if v < 0 then (v + (n : Int)).toNat else min v.toNat n) ≤ n
    by_cases hv : v < 0
    · rw [if_pos hv]; omega
    · rw [if_neg hv]; exact Nat.min_le_right _ _
theorem clip_eq (v : Int) (n d : Nat) : (if v < 0 then max (v + (n : Int)) 0 else min v (n : Int)) = ((sIx n d (some v) : Nat) : Int) := by
  show (if v < 0 then max (v + (n : Int)) 0 else min v (n : Int)) = (((if v < 0 then (v + (n : Int)).toNat else min v.toNat n) : Nat) : Int)
  by_cases hv : v < 0
  · simp only [if_pos hv]; omega
  · simp only [if_neg hv]; omega
theorem adjust_gen (lo hi : Option Int) (n : Nat) : Builtin.Slice.sliceAdjust lo hi 1 (n : Int) = (((sIx n 0 lo : Nat) : Int), ((sIx n n hi : Nat) : Int)) := by
  have h1 : ¬ ((1 : Int) < 0) := by omega
  unfold Builtin.Slice.sliceAdjust
  simp only [h1, if_false]
  refine Prod.ext ?_ ?_
  · cases lo with
    | none => rfl
    | some v => exact clip_eq v n 0
  · cases hi with
    | none => rfl
    | some v => exact clip_eq v n n
theorem places_gen (i j : Nat) : Builtin.Slice.slicePlaces (i : Int) (j : Int) 1 = j - i := by
  unfold Builtin.Slice.slicePlaces
  have h1 : (1 : Int) > 0 := by omega
  simp only [h1, if_true, Int.ediv_one]
  split <;> omega
theorem slicePart_ {v : Value} {o : Option Int} {Q : Option Int → Shared → Prop} (p : IsPart v o) (h : Q o s) : wpAny (model prog w) A (Builtin.Slice.slicePartIndex v) Q E s := by
  cases p with
  | none => exact slicePart_none h
  | int i t => exact slicePart_int h
theorem sliceApplied_gen {sl : Addr} {vl vu : Value} {lo hi : Option Int} {n : Nat} {Q : Int × Int × Nat → Shared → Prop} (hs : s.heap.IsSliceOf sl vl vu .none) (pl : IsPart vl lo) (pu : IsPart vu hi)
    (h : Q (((sIx n 0 lo : Nat) : Int), 1, sIx n n hi - sIx n 0 lo) s) : wpAny (model prog w) A (Builtin.Slice.sliceApplied (.ref sl) (pure (n : Int))) Q E s := by
  obtain ⟨os, hos, hcs, hds⟩ := id hs
  unfold Builtin.Slice.sliceApplied Builtin.Slice.sliceFields
  refine wpAny_bind (wpAny_bind (wpAny_field hos hds (x := vl) rfl (wpAny_bind (wpAny_field hos hds (x := vu) rfl (wpAny_bind (wpAny_field hos hds (x := .none) rfl (wpAny_pure ?_)))))))
  refine wpAny_bind (slicePart_none ?_)
  show wpAny _ _ (if ((1 : Int) == 0) = true then _ else _) _ _ s
  rw [if_neg (by decide)]
  refine wpAny_bind (slicePart_ pl (wpAny_bind (slicePart_ pu (wpAny_bind (wpAny_pure ?_)))))
  show wpAny _ _ (match Builtin.Slice.sliceAdjust lo hi 1 (n : Int) with | (lo, hi) => pure (lo, (1 : Int), Builtin.Slice.slicePlaces lo hi 1)) _ _ s
  rw [adjust_gen lo hi n]
  show wpAny _ _ (pure (((sIx n 0 lo : Nat) : Int), (1 : Int), Builtin.Slice.slicePlaces ((sIx n 0 lo : Nat) : Int) ((sIx n n hi : Nat) : Int) 1)) _ _ s
  rw [places_gen]
  exact wpAny_pure h
theorem pick_gen (xs : Array Value) (i k : Nat) : ((List.range k).filterMap fun (m : Nat) => xs[((i : Int) + (m : Int) * 1).toNat]?).toArray = ((xs.toList.drop i).take k).toArray := by
  have e : (fun (m : Nat) => xs[((i : Int) + (m : Int) * 1).toNat]?) = fun m => xs[i + m]? := by
    funext m
    have : ((i : Int) + (m : Int) * 1).toNat = i + m := by omega
    rw [this]
  rw [e]
  have := pick_run xs i k
  rw [List.filterMap_map] at this
  have e2 : ((fun x => xs[x]?) ∘ fun x => i + x) = fun m => xs[i + m]? := rfl
  rw [e2] at this
  rw [this]
theorem getItem_tuple_cut {t sl : Addr} {items : Array Value} {vl vu : Value} {lo hi : Option Int} {Q : Value → Shared → Prop} (ht : IsTup s.heap t items) (hs : s.heap.IsSliceOf sl vl vu .none) (pl : IsPart vl lo) (pu : IsPart vu hi)
    (hw : ¬ (sIx items.size 0 lo = 0 ∧ sIx items.size items.size hi = items.size))
    (h : Q (.ref s.heap.objs.size) { s with heap := s.heap.push { cls := .type "tuple", data := .seq ((items.toList.drop (sIx items.size 0 lo)).take (sIx items.size items.size hi - sIx items.size 0 lo)).toArray } })
    (hsz : items.size ≤ sizeLine) : wpAny (model prog w) A (getItem (.ref t) (.ref sl)) Q E s := by
  have htake : sizeOk (.seq ((items.toList.drop (sIx items.size 0 lo)).take (sIx items.size items.size hi - sIx items.size 0 lo)).toArray) := by
    show ((items.toList.drop (sIx items.size 0 lo)).take (sIx items.size items.size hi - sIx items.size 0 lo)).toArray.size ≤ sizeLine
    rw [List.size_toArray, List.length_take, List.length_drop, Array.length_toList]
    omega
  have hj : sIx items.size items.size hi ≤ items.size := sIx_le _ _ (Nat.le_refl _) hi
  obtain ⟨os, hos, hcs, hds⟩ := id hs
  have hTs : s.TypeIs (.ref sl) "slice" := ⟨os, hos, hcs⟩
  unfold getItem
  try with_reducible refine wpAny_holding ?_
  first | refine wpAny_bind (wpAny_pure ?_) | skip
  refine wpAny_bind (wpAny_sequenceKey ht.typeIs (by decide) ?_)
  refine wpAny_bind (wpAny_callSpecial?_slot (name := Str.ofString "__getitem__") ht.typeIs PyProof.Rows.slot_tuple_getitem
    (wpAny_call_entry PyProof.Rows.slot_tuple_getitem ht.typeIs entry_tuple_getitem ?_ (args_tuple_getitem _ _)))
  show wpAny _ _ (Builtin.Tuple.tupleItemsOf (.ref t) >>= _) _ _ s
  refine wpAny_bind (tupleItemsOf_ ht ?_)
  refine wpAny_bind (wpAny_typeOf hTs ?_)
  rw [if_pos (by decide)]
  refine wpAny_bind (sliceApplied_gen hs pl pu ?_)
  have hno : ¬ ((((sIx items.size 0 lo : Nat) : Int) == 0 && (1 : Int) == 1 && (sIx items.size items.size hi - sIx items.size 0 lo) == items.size) = true) := by
    intro q
    rw [Bool.and_eq_true, Bool.and_eq_true] at q
    have q1 : ((sIx items.size 0 lo : Nat) : Int) = 0 := eq_of_beq q.1.1
    have q2 : sIx items.size items.size hi - sIx items.size 0 lo = items.size := eq_of_beq q.2
    exact hw ⟨by omega, by omega⟩
  show wpAny _ _ (if (((sIx items.size 0 lo : Nat) : Int) == 0 && (1 : Int) == 1 && (sIx items.size items.size hi - sIx items.size 0 lo) == items.size) = true then _ else _) _ _ s
  rw [if_neg hno, pick_gen]
  first
    | exact wpAny_bind (m := Builtin.Tuple.tupleExact _) (wpAny_newObj_type (wpAny_pure ⟨_, rfl, wpAny_pure h⟩) htake)
    | exact wpAny_bind (m := Builtin.Tuple.tupleExact _) (wpAny_newObj_type (wpAny_bind (wpAny_pure (wpAny_pure ⟨_, rfl, wpAny_pure h⟩))) htake)
    | exact wpAny_bind (wpAny_bind (m := Builtin.Tuple.tupleExact _) (wpAny_newObj_type (wpAny_pure (wpAny_pure ⟨_, rfl, wpAny_pure h⟩)) htake))
    | exact wpAny_bind (wpAny_bind (m := Builtin.Tuple.tupleExact _) (wpAny_newObj_type (wpAny_pure ⟨_, rfl, wpAny_pure h⟩) htake))
end
end HT
namespace L2
open PySem PySem.Spec PyProof.Rows
noncomputable abbrev TO := St → Hp → (Option Int → Hp → Prop) → Prop
noncomputable def PO (X : Cx) (e : Option Expr) (t : TO) : Prop :=
  ∀ (pins : List (Addr × Obj)) (s : Shared) (σ : St) (H : Hp) (Q : Option Int → Hp → Prop), Inv X pins σ H s → t σ H Q →
    wpAny (model X.prog X.w) X.A (evalPart e X.env) (fun u s' => ∃ o H', Inv X pins σ H' s' ∧ IsPart u o ∧ Q o H') X.xe s
noncomputable def tNoPart : TO := fun _ H Q => Q none H
noncomputable def tPart (t : TE) : TO := fun σ H Q => t σ H fun x H1 => ∃ i, x = .int i ∧ Q (some i) H1
section
variable {X : Cx} {e : Expr} {te : TE} {lo hi : Option Expr} {tl th : TO} {pos p2 : Pos}
theorem po_none : PO X none tNoPart := by
  intro pins s σ H Q I h
  rw [evalPart_none]
  exact wpAny_pure ⟨none, H, I, .none, h⟩
theorem po_some (h : PE X e te) : PO X (some e) (tPart te) := by
  intro pins s σ H Q I hw
  rw [evalPart_some]
  refine thn (h pins s σ H _ I hw) fun u s1 ⟨x, H1, I1, r1, q1⟩ => ?_
  obtain ⟨i, rfl, q⟩ := q1
  obtain ⟨t, rfl⟩ := r1
  exact ⟨some i, H1, I1, .int i t, q⟩
noncomputable def SlR (X : Cx) (r : V → Option Int → Option Int → Hp → VK → Prop) : Prop :=
  ∀ (pins : List (Addr × Obj)) (s : Shared) (σ : St) (H : Hp) (x : V) (v vl vu : Value) (lo hi : Option Int) (sl : Addr) (Q : VK), Inv X pins σ H s → RelV x v → s.heap.IsSliceOf sl vl vu .none → IsPart vl lo → IsPart vu hi → r x lo hi H Q →
    ∃ T id, typeLookup (.type T) "__getitem__" = pure (some (.builtin id)) ∧ s.TypeIs v T ∧ wpAny (model X.prog X.w) X.A (getItem v (.ref sl)) (EP X pins σ Q) X.xe s
theorem SlR.or {r r' : V → Option Int → Option Int → Hp → VK → Prop} (h : SlR X r) (h' : SlR X r') : SlR X (fun x lo hi H Q => r x lo hi H Q ∨ r' x lo hi H Q) := by
  intro pins s σ H x v vl vu lo hi sl Q I rx hs pl pu q
  rcases q with q | q
  · exact h pins s σ H x v vl vu lo hi sl Q I rx hs pl pu q
  · exact h' pins s σ H x v vl vu lo hi sl Q I rx hs pl pu q
noncomputable def tSl (r : V → Option Int → Option Int → Hp → VK → Prop) (te : TE) (tl th : TO) : TE := fun σ H Q => te σ H fun x H1 => tl σ H1 fun l H2 => th σ H2 fun u H3 => r x l u H3 Q
theorem pe_slice {r : V → Option Int → Option Int → Hp → VK → Prop} (hr : SlR X r) (he : PE X e te) (hl : PO X lo tl) (hu : PO X hi th) : PE X (.Subscript e (.Slice lo hi none p2) pos) (tSl r te tl th) := by
  intro pins s σ H Q I h
  refine Subscript_ (thn (he pins s σ H _ I h) fun v s1 ⟨x, H1, I1, r1, q1⟩ => ?_)
  refine wpAny_Slice (thn (hl pins s1 σ H1 _ I1 q1) fun vl s2 ⟨l, H2, I2, pl, q2⟩ => thn (hu pins s2 σ H2 _ I2 q2) fun vu s3 ⟨u, H3, I3, pu, q3⟩ => ?_)
  rw [evalPart_none]
  refine wpAny_pure ?_
  have I4 : Inv X pins σ H3 { s3 with heap := s3.heap.push { cls := .type "slice", data := .fields #[vl, vu, .none] } } := I3.kept (t' := s3.toks) fun b ob q => Heap.get?_push_of_some _ q
  obtain ⟨T, id, hT, ht, hg⟩ := hr pins { s3 with heap := s3.heap.push { cls := .type "slice", data := .fields #[vl, vu, .none] } } σ H3 x v vl vu l u s3.heap.objs.size Q I4 r1 (Heap.IsSliceOf.new ..) pl pu q3
  show wpAny (model X.prog X.w) X.A (subscriptTail e (.Slice lo hi none p2) v (.ref s3.heap.objs.size)) (EP X pins σ Q) X.xe { s3 with heap := s3.heap.push { cls := .type "slice", data := .fields #[vl, vu, .none] } }
  exact tail_any (ops := [.ref s3.heap.objs.size, v]) ht hT hg (by with_unfolding_all rfl)
noncomputable def cutV (xs : List V) (lo hi : Option Int) : List V := (xs.drop (HT.sIx xs.length 0 lo)).take (HT.sIx xs.length xs.length hi - HT.sIx xs.length 0 lo)
theorem cutV_length (xs : List V) (lo hi : Option Int) : (cutV xs lo hi).length ≤ xs.length := by
  unfold cutV
  rw [List.length_take, List.length_drop]
  omega
noncomputable def rSlT (K : PySem.W.Frag) : V → Option Int → Option Int → Hp → VK → Prop := fun x lo hi H Q => ∃ a xs, x = .ref a ∧ SqT K H a xs ∧
  ¬ (HT.sIx xs.length 0 lo = 0 ∧ HT.sIx xs.length xs.length hi = xs.length) ∧ ∀ p, H p = none → Q (.ref p) (upd H p (.tup (cutV xs lo hi)))
theorem sl_tup : SlR X (rSlT X.K) := by
  intro pins s σ H x v vl vu lo hi sl Q I rx hs pl pu h
  obtain ⟨a, xs, rfl, hx, hw, q⟩ := h
  cases rx
  obtain ⟨its, r, ht, hz⟩ := I.tuple hx
  have hlen : its.toArray.size = xs.length := by rw [List.size_toArray]; exact r.length.symm
  refine ⟨"tuple", _, PyProof.Rows.slot_tuple_getitem.lookup, ht.typeIs, ?_⟩
  refine HT.getItem_tuple_cut ht hs pl pu (by rw [hlen]; exact hw) ?_ (by rw [hlen]; exact hz)
  rw [hlen]
  refine ⟨.ref s.heap.objs.size, _, I.laid (t' := s.toks) (o := .tup (cutV xs lo hi)) (fun b ob q => Heap.get?_push_of_some _ q) (Nat.le_refl _) ?_, rfl, q _ (I.hok.fresh (Nat.le_refl _))⟩
  exact ⟨Nat.le_trans (cutV_length xs lo hi) hz, _, (r.drop (HT.sIx xs.length 0 lo)).take (HT.sIx xs.length xs.length hi - HT.sIx xs.length 0 lo), IsTupN.new _ _⟩
noncomputable def rCatT (K : PySem.W.Frag) : R2 := fun x y H Q => ∃ a b xs ys, x = .ref a ∧ y = .ref b ∧ SqT K H a xs ∧ SqT K H b ys ∧ xs ≠ [] ∧ xs.length + ys.length ≤ sizeLine ∧
  (ys = [] → Q (.ref a) H) ∧ (ys ≠ [] → ∀ p, H p = none → Q (.ref p) (upd H p (.tup (xs ++ ys))))
theorem Vals.nil_iff {xs : List V} {us : List Value} (r : Vals xs us) : us = [] ↔ xs = [] := by
  cases r with
  | nil => simp
  | cons _ _ => simp
theorem op_catT : OpR X (binaryOp .Add) (rCatT X.K) := by
  intro pins s σ H x y v u Q I rx ry h
  obtain ⟨a, b, xs, ys, rfl, rfl, ha, hb, hx, hz, q1, q2⟩ := h
  cases rx
  cases ry
  obtain ⟨its, r1, p1, _⟩ := I.tuple ha
  obtain ⟨its2, r2, p2, _⟩ := I.tuple hb
  refine HT.cat_tup p1 p2 (fun z => hx (r1.nil_iff.mp z)) (fun z => ⟨.ref a, H, I, rfl, q1 (r2.nil_iff.mp z)⟩) (fun z => ?_) (by rw [← r1.length, ← r2.length]; exact hz)
  refine ⟨.ref s.heap.objs.size, _, I.laid (t' := s.toks) (o := .tup (xs ++ ys)) (fun b ob q => Heap.get?_push_of_some _ q) (Nat.le_refl _) ?_, rfl, q2 (fun w => z (r2.nil_iff.mpr w)) _ (I.hok.fresh (Nat.le_refl _))⟩
  exact ⟨by rw [List.length_append]; exact hz, _, r1.append r2, IsTupN.new _ _⟩
end
end L2
namespace L2
open PySem PySem.Spec PyProof.Rows
noncomputable def ixN (n : Nat) (i : Int) : Option Nat := if 0 ≤ i then (if i < n then some i.toNat else none) else if -(n : Int) ≤ i then some (i + n).toNat else none
noncomputable def atI {α : Type} (xs : List α) (i : Int) : Option α := (ixN xs.length i).bind fun j => xs[j]?
theorem ixN_seq {n : Nat} {i : Int} {j : Nat} (h : ixN n i = some j) : seqIndex? i n = some j ∧ j < n ∧ -(n : Int) ≤ i ∧ i < n := by
  unfold ixN at h
  by_cases h0 : 0 ≤ i
  · rw [if_pos h0] at h
    by_cases h1 : i < n
    · rw [if_pos h1] at h
      have e : i.toNat = j := Option.some.inj h
      exact ⟨by rw [seqIndex_of h0 h1, e], by omega, by omega, h1⟩
    · rw [if_neg h1] at h; cases h
  · rw [if_neg h0] at h
    by_cases h1 : -(n : Int) ≤ i
    · rw [if_pos h1] at h
      have e : (i + n).toNat = j := Option.some.inj h
      exact ⟨by rw [seqIndex_neg (by omega) h1, e], by omega, h1, by omega⟩
    · rw [if_neg h1] at h; cases h
theorem atI_get {α : Type} {xs : List α} {i : Int} {v : α} (h : atI xs i = some v) : ∃ j, seqIndex? i xs.length = some j ∧ xs[j]? = some v ∧ j < xs.length ∧ -(xs.length : Int) ≤ i ∧ i < xs.length := by
  unfold atI at h
  cases e : ixN xs.length i with
  | none => rw [e] at h; cases h
  | some j =>
    rw [e] at h
    obtain ⟨h1, h2, h3, h4⟩ := ixN_seq e
    exact ⟨j, h1, h, h2, h3, h4⟩
noncomputable def PlainIx (b : Expr) : Prop := ∀ o i, subscripted b false o i = operate [o, i] (getItem o i)
noncomputable def IxR (X : Cx) (r : R2) : Prop :=
  ∀ (value slice : Expr) (pins : List (Addr × Obj)) (s : Shared) (σ : St) (H : Hp) (x y : V) (v u : Value) (Q : VK), Inv X pins σ H s → RelV x v → RelV y u → r x y H Q →
    subscripted slice false v u = operate [v, u] (getItem v u) → wpAny (model X.prog X.w) X.A (subscriptTail value slice v u) (EP X pins σ Q) X.xe s
noncomputable def MtR (X : Cx) (id : String) (r : V → List V → Hp → VK → Prop) : Prop :=
  ∀ (pins : List (Addr × Obj)) (s : Shared) (σ : St) (H : Hp) (x : V) (xs : List V) (v : Value) (us : List Value) (Q : VK), Inv X pins σ H s → RelV x v → Vals xs us → r x xs H Q →
    wpAny (model X.prog X.w) X.A (call (.builtin id) (v :: us)) (EP X pins σ Q) X.xe s
section
variable {X : Cx} {a b : Expr} {ta tb : TE} {pos : Pos}
theorem IxR.or {r r' : R2} (h : IxR X r) (h' : IxR X r') : IxR X (fun x y H Q => r x y H Q ∨ r' x y H Q) := by
  intro value slice pins s σ H x y v u Q I rx ry q hs
  rcases q with q | q
  · exact h value slice pins s σ H x y v u Q I rx ry q hs
  · exact h' value slice pins s σ H x y v u Q I rx ry q hs
theorem pe_ix {r : R2} (hr : IxR X r) (ha : PE X a ta) (hb : PE X b tb) (hs : PlainIx b) : PE X (.Subscript a b pos) (tOp r ta tb) := by
  intro pins s σ H Q I h
  exact Subscript_ (binT ha hb I h fun v u s2 x y H2 I2 rx ry q => hr a b pins s2 σ H2 x y v u Q I2 rx ry q (hs _ _))
noncomputable def rIxL (K : PySem.W.Frag) : R2 := fun x y H Q => ∃ p xs i v, x = .ref p ∧ y = .int i ∧ SqL K H p xs ∧ atI xs i = some v ∧ Q v H
noncomputable def rIxT (K : PySem.W.Frag) : R2 := fun x y H Q => ∃ p xs i v, x = .ref p ∧ y = .int i ∧ SqT K H p xs ∧ atI xs i = some v ∧ Q v H
noncomputable def rIxS : R2 := fun x y H Q => ∃ z i c, x = .str z ∧ y = .int i ∧ z.length ≤ sizeLine ∧ atI z.cps.toList i = some c ∧ Q (.str ⟨#[c]⟩) H
theorem ix_list : IxR X (rIxL X.K) := by
  intro value slice pins s σ H x y v u Q I rx ry h hs
  obtain ⟨p, xs, i, z, rfl, rfl, hq, he, q⟩ := h
  cases rx
  obtain ⟨t, rfl⟩ := ry
  obtain ⟨its, r, pl, hz⟩ := I.list hq
  obtain ⟨j, h1, h2, h3, h4, h5⟩ := atI_get he
  obtain ⟨w, ew, rw'⟩ := r.get h2
  have hl := r.length
  have hn := line63
  have fin : EP X pins σ Q w s := ⟨z, H, I, rw', q⟩
  by_cases h0 : 0 ≤ i
  · have hj : i.toNat = j := by
      rw [seqIndex_of h0 h5] at h1
      exact Option.some.inj h1
    exact item_listR pl.isList h0 (by omega) (by rw [hj]; simpa using ew) fin hs
  · have hj : (i + (its.toArray.size : Int)).toNat = j := by
      rw [seqIndex_neg (by omega) h4] at h1
      rw [List.size_toArray, ← hl]
      exact Option.some.inj h1
    exact subscriptTail_builtinR (x := w) pl.isList.typeIs slot_list_getitem.lookup
      (wpAny_getItem_list_neg (Q := fun r s' => r = w ∧ EP X pins σ Q r s') pl.isList (by omega) (by rw [List.size_toArray] <;> omega) (by omega) (by rw [hj]; simpa using ew) ⟨rfl, fin⟩) hs
theorem ix_tup : IxR X (rIxT X.K) := by
  intro value slice pins s σ H x y v u Q I rx ry h hs
  obtain ⟨p, xs, i, z, rfl, rfl, hq, he, q⟩ := h
  cases rx
  obtain ⟨t, rfl⟩ := ry
  obtain ⟨its, r, pl, hz⟩ := I.tuple hq
  obtain ⟨j, h1, h2, h3, h4, h5⟩ := atI_get he
  obtain ⟨w, ew, rw'⟩ := r.get h2
  have hl := r.length
  have hn := line63
  have fin : EP X pins σ Q w s := ⟨z, H, I, rw', q⟩
  exact subscriptTail_builtinR (x := w) pl.typeIs slot_tuple_getitem.lookup
    (getItem_tuple (j := j) (Q := fun r s' => r = w ∧ EP X pins σ Q r s') pl (by omega) (by omega) (by rw [List.size_toArray, ← hl]; exact h1) (by simpa using ew) ⟨rfl, fin⟩) hs
theorem ix_str : IxR X rIxS := by
  intro value slice pins s σ H x y v u Q I rx ry h hs
  obtain ⟨z, i, c, rfl, rfl, hz, he, q⟩ := h
  obtain ⟨t, rfl⟩ := rx
  obtain ⟨t', rfl⟩ := ry
  obtain ⟨j, h1, h2, h3, h4, h5⟩ := atI_get he
  have hl : z.cps.toList.length = z.length := by simp [Str.length]
  rw [hl] at h1 h4 h5
  have hn := line63
  exact tail_any (typeIs_str s z t) slot_str_getitem.lookup (getItem_str (c := c) (by
    have e1 : decide (i < -(2 ^ 63 : Int)) = false := decide_eq_false (by omega)
    have e2 : decide (i ≥ 2 ^ 63) = false := decide_eq_false (by omega)
    rw [e1, e2, Bool.or_false]) (by rw [h1]; simpa using h2) ⟨.str ⟨#[c]⟩, H, I.tok _, ⟨_, rfl⟩, q⟩) hs
noncomputable def rIx (K : PySem.W.Frag) : R2 := fun x y H Q => rIxL K x y H Q ∨ rIxT K x y H Q ∨ rIxS x y H Q
theorem ix_seq : IxR X (rIx X.K) := ix_list.or (ix_tup.or ix_str)
theorem slice_bounds (lo hi : Option Int) (n : Nat) : (sliceBounds lo hi none n).1 = ((HT.sIx n 0 lo : Nat) : Int) ∧ (sliceBounds lo hi none n).2.1 = ((HT.sIx n n hi : Nat) : Int) ∧ (sliceBounds lo hi none n).2.2 = 1 := by
  refine ⟨?_, ?_, rfl⟩
  · cases lo with
    | none => simp [sliceBounds, HT.sIx]
    | some i =>
      simp only [sliceBounds, HT.sIx, Option.getD_none, show (1 : Int) > 0 by decide, if_true]
      by_cases h : i < 0
      · simp only [h, if_true] <;> omega
      · simp only [h, if_false] <;> omega
  · cases hi with
    | none => simp [sliceBounds, HT.sIx]
    | some i =>
      simp only [sliceBounds, HT.sIx, Option.getD_none, show (1 : Int) > 0 by decide, if_true]
      by_cases h : i < 0
      · simp only [h, if_true] <;> omega
      · simp only [h, if_false] <;> omega
theorem slicePick_cut (its : List Value) (lo hi : Option Int) : slicePick its.toArray lo hi none = ((its.drop (HT.sIx its.length 0 lo)).take (HT.sIx its.length its.length hi - HT.sIx its.length 0 lo)).toArray := by
  obtain ⟨h1, h2, h3⟩ := slice_bounds lo hi its.toArray.size
  unfold slicePick
  rw [h1, h2, h3]
  simp only [sliceRange_one, pick_run, List.size_toArray] <;> rfl
noncomputable def rSlL (K : PySem.W.Frag) : V → Option Int → Option Int → Hp → VK → Prop := fun x lo hi H Q => ∃ a xs, x = .ref a ∧ SqL K H a xs ∧ ∀ p, H p = none → Q (.ref p) (upd H p (.lst (cutV xs lo hi)))
theorem sl_list : SlR X (rSlL X.K) := by
  intro pins s σ H x v vl vu lo hi sl Q I rx hs pl pu h
  obtain ⟨a, xs, rfl, hx, q⟩ := h
  cases rx
  obtain ⟨its, r, ht, hz⟩ := I.list hx
  have hlen := r.length
  refine ⟨"list", _, slot_list_getitem.lookup, ht.isList.typeIs, ?_⟩
  refine wpAny_getItem_list_slice ht.isList hs pl pu .none (by simp) ?_ (by rw [List.size_toArray] <;> omega)
  rw [slicePick_cut, ← hlen]
  refine ⟨.ref s.heap.objs.size, _, I.laid (t' := s.toks) (o := .lst (cutV xs lo hi)) (fun b ob q => Heap.get?_push_of_some _ q) (Nat.le_refl _) ?_, rfl, q _ (I.hok.fresh (Nat.le_refl _))⟩
  exact ⟨Nat.le_trans (cutV_length xs lo hi) hz, _, 0, (r.drop (HT.sIx xs.length 0 lo)).take (HT.sIx xs.length xs.length hi - HT.sIx xs.length 0 lo), Heap.get?_push_size _ rfl⟩
theorem CallR.or {f : Value} {r r' : List V → Hp → VK → Prop} (h : CallR X f r) (h' : CallR X f r') : CallR X f (fun xs H Q => r xs H Q ∨ r' xs H Q) := by
  intro pins s σ H xs us Q I rs q
  rcases q with q | q
  · exact h pins s σ H xs us Q I rs q
  · exact h' pins s σ H xs us Q I rs q
noncomputable def tyV (K : PySem.W.Frag) (T : String) (x : V) (H : Hp) : Prop := match x with
  | .str _ => T = "str"
  | .int _ => T = "int"
  | .ref p => (T = "list" ∧ ∃ xs, SqL K H p xs) ∨ (T = "tuple" ∧ ∃ o, K.lookup p = some o ∧ o.cls = .type "tuple" ∧ o.dict = none) ∨
      (T = "dict" ∧ ((∃ kvs, H p = some (.dK kvs)) ∨ ∃ kvs, H p = some (.dT kvs))) ∨ (T = "set" ∧ ∃ S n, H p = some (.set S n))
  | _ => False
theorem tyV_is {pins : List (Addr × Obj)} {σ : St} {H : Hp} {s : Shared} {T : String} {x : V} {v : Value} (I : Inv X pins σ H s) (r : RelV x v) (ty : tyV X.K T x H) :
    s.TypeIs v T ∧ ∀ a, v = .ref a → ∃ ob, s.heap.get? a = some ob ∧ ob.dict = none := by
  cases x with
  | str z =>
    obtain ⟨t, rfl⟩ := r
    cases (show T = "str" from ty)
    exact ⟨typeIs_str s z t, fun _ e => nomatch e⟩
  | int i =>
    obtain ⟨t, rfl⟩ := r
    cases (show T = "int" from ty)
    exact ⟨typeIs_int s i t, fun _ e => nomatch e⟩
  | ref p =>
    cases r
    rcases ty with ⟨rfl, xs, hq⟩ | ⟨rfl, o, hk, hc, hd⟩ | ⟨rfl, hk⟩ | ⟨rfl, S, n, hk⟩
    · obtain ⟨its, _, pl, _⟩ := I.list hq
      refine ⟨pl.isList.typeIs, fun a e => ?_⟩
      cases e
      obtain ⟨o, n, e, c, hd, _⟩ := pl
      exact ⟨o, e, hd⟩
    · refine ⟨⟨o, I.kIn p o hk, hc⟩, fun a e => ?_⟩
      cases e
      exact ⟨o, I.kIn _ o hk, hd⟩
    · have z : ∃ o, s.heap.get? p = some o ∧ o.ExactDict := by
        rcases hk with ⟨kvs, hk⟩ | ⟨kvs, hk⟩
        · obtain ⟨_, _, _, _, o, _, _, e, ex, _⟩ := I.hok p _ hk
          exact ⟨o, e, ex⟩
        · obtain ⟨_, _, _, _, o, _, _, e, ex, _⟩ := I.hok p _ hk
          exact ⟨o, e, ex⟩
      obtain ⟨o, e, ex⟩ := z
      refine ⟨⟨o, e, ex.1⟩, fun a e2 => ?_⟩
      cases e2
      exact ⟨o, e, ex.2.1⟩
    · obtain ⟨o, _, _, _, e, ex, _⟩ := I.hok p _ hk
      refine ⟨⟨o, e, ex.1⟩, fun a e2 => ?_⟩
      cases e2
      exact ⟨o, e, ex.2.1⟩
  | _ => exact False.elim ty
noncomputable def tBM0 (K : PySem.W.Frag) (T : String) (r : V → List V → Hp → VK → Prop) (to : TE) : TE := fun σ H Q => to σ H fun x H1 => tyV K T x H1 ∧ r x [] H1 Q
noncomputable def tBM (K : PySem.W.Frag) (T : String) (r : V → List V → Hp → VK → Prop) (to : TE) (t : TA) : TE := fun σ H Q => to σ H fun x H1 => tyV K T x H1 ∧ t σ H1 fun xs H2 => r x xs H2 Q
variable {o e : Expr} {es : List Expr} {to : TE} {t : TA} {name : Str} {apos cpos : Pos} {T id : String} {r : V → List V → Hp → VK → Prop}
theorem pe_bm0 (pa : PlainAttrs T) (slot : Slot T name id) (hty : typeOf (.builtin id) = pure (.type "method_descriptor")) (hm : MtR X id r) (ho : PE X o to)
    (hbase : attributeBase o name X.env (eval o X.env) = eval o X.env := by rfl) (hline : (apos.endLine == cpos.line) = true := by rfl) : PE X (.Call (.Attribute o name apos) [] [] cpos) (tBM0 X.K T r to) := by
  intro pins s σ H Q I h
  refine wpAny_Call_method0_late hbase hline (thn (ho pins s σ H _ I h) fun v s1 ⟨x, H1, I1, r1, ty, q1⟩ => ?_)
  obtain ⟨h1, h2⟩ := tyV_is I1 r1 ty
  exact ⟨T, id, pa, slot, hty, h1, h2, Calls.callWith_builtin rfl (PySem.evalArgs_none (hm pins s1 σ H1 x [] v [] Q I1 r1 .nil q1))⟩
theorem pe_bm (pa : PlainAttrs T) (slot : Slot T name id) (hty : typeOf (.builtin id) = pure (.type "method_descriptor")) (hm : MtR X id r) (ho : PE X o to) (ha : PA X (e :: es) t)
    (hbase : attributeBase o name X.env (eval o X.env) = eval o X.env := by rfl)
    (hfew : ((backTo cpos (starEach (e :: es) X.env)).all (fun x => !x.1) && (backToKw cpos (keywordEach [] X.env)).all (fun x => x.1.isSome)
      && decide ((e :: es).length + ([] : List Keyword).length + (if ([] : List Keyword).isEmpty then 0 else 1) < 30)) = true := by rfl)
    (hline : (apos.endLine == cpos.line) = true := by rfl) (hs : starEach (e :: es) X.env = (false, eval e X.env) :: starEach es X.env := by rfl) (hplain : (backTo cpos (starEach es X.env)).any (·.1) = false := by rfl) :
    PE X (.Call (.Attribute o name apos) (e :: es) [] cpos) (tBM X.K T r to t) := by
  intro pins s σ H Q I h
  refine wpAny_Call_method_late hbase hfew hline rfl (thn (ho pins s σ H _ I h) fun v s1 ⟨x, H1, I1, r1, ty, q1⟩ => ?_)
  obtain ⟨h1, h2⟩ := tyV_is I1 r1 ty
  refine ⟨T, id, pa, slot, hty, h1, h2, ?_⟩
  have hA := ha cpos pins s1 σ H1 _ I1 q1
  rw [hs] at hA ⊢
  refine Calls.callWith_builtin (by show (false || (backTo cpos (starEach es X.env)).any (·.1)) = false; rw [hplain] <;> rfl) (Calls.evalArgs_plain ?_)
  exact thn hA fun us s2 ⟨vs, H2, I2, r2, q2⟩ => hm pins s2 σ H2 x vs v us Q I2 r1 r2 q2
end
end L2
namespace L2
open PySem PySem.Spec PyProof.Rows
noncomputable def MtM (X : Cx) (id : String) (r : V → List V → Hp → VK → Prop) : Prop :=
  ∀ (pins : List (Addr × Obj)) (s : Shared) (σ : St) (H : Hp) (x : V) (xs : List V) (v : Value) (us : List Value) (Q : VK), Inv X pins σ H s → RelV x v → Vals xs us → r x xs H Q →
    wpAny (model X.prog X.w) X.A (call (.builtin id) (v :: us)) (EP X pins σ Q) X.xe s
theorem Vals.one : ∀ {x : V} {us : List Value}, Vals [x] us → ∃ u, us = [u] ∧ RelV x u
  | _, _, .cons r .nil => ⟨_, rfl, r⟩
theorem Vals.zero : ∀ {us : List Value}, Vals [] us → us = []
  | _, .nil => rfl
theorem Vals.dropLast {xs : List V} {us : List Value} (h : Vals xs us) : Vals xs.dropLast us.dropLast := by
  induction h with
  | nil => exact .nil
  | cons r t ih =>
    cases t with
    | nil => exact .nil
    | cons q t' => exact .cons r ih
theorem Vals.rep {xs : List V} {us : List Value} (h : Vals xs us) : ∀ k : Nat, Vals (List.replicate k xs).flatten (List.replicate k us).flatten
  | 0 => .nil
  | k + 1 => by
    rw [List.replicate_succ, List.replicate_succ, List.flatten_cons, List.flatten_cons]
    exact Vals.append h (Vals.rep h k)
theorem erase_last {α : Type} (l : List α) : l.eraseIdx (l.length - 1) = l.dropLast := by
  induction l with
  | nil => rfl
  | cons a r ih =>
    cases r with
    | nil => rfl
    | cons b r =>
      have e : (a :: b :: r).length - 1 = ((b :: r).length - 1) + 1 := by
        have h1 : (a :: b :: r).length = r.length + 2 := rfl
        have h2 : (b :: r).length = r.length + 1 := rfl
        omega
      rw [e, List.eraseIdx_cons_succ, ih]
      all_goals rfl
theorem foldl_rep (its : List Value) : ∀ (k : Nat) (acc : List Value),
    List.foldl (fun x1 x2 => x1 ++ x2) acc.toArray (List.replicate k its.toArray) = (acc ++ (List.replicate k its).flatten).toArray
  | 0, acc => by simp
  | k + 1, acc => by
    have e : acc.toArray ++ its.toArray = (acc ++ its).toArray := by simp
    have e2 : (acc ++ its) ++ (List.replicate k its).flatten = acc ++ (List.replicate (k + 1) its).flatten := by
      rw [List.replicate_succ, List.flatten_cons, List.append_assoc]
    rw [← e2, ← foldl_rep its k (acc ++ its), ← e, List.replicate_succ, List.foldl_cons]
section
variable {X : Cx} {pins : List (Addr × Obj)} {σ : St} {H : Hp} {s : Shared} {l b : Addr} {xs ys zs : List V}
theorem Inv.lset {its its' : List Value} {n : Nat} {f : Array Value → Array Value} {t' : Nat} (I : Inv X pins σ H s) (hH : H l = some (.lst xs))
    (e : s.heap.get? l = some { cls := .type "list", data := .seq its.toArray n }) (hf : f its.toArray = its'.toArray) (hv : Vals ys its') (hz : ys.length ≤ sizeLine) :
    Inv X pins σ (upd H l (.lst ys)) { s with heap := s.heap.update l (Obj.mapSeq f), toks := t' } := by
  have q := PySem.IsL.update e f
  rw [hf] at q
  refine I.write (x := l) (e := l) (by rw [hH]; exact trivial) (.inl rfl) (fun b' u hb hu => (Heap.get?_update_other s.heap (Obj.mapSeq f) (Ne.symm hb)).trans hu) ⟨_, q⟩ ?_
  exact ⟨hz, its', _, hv, q⟩
theorem Inv.lnew {its : List Value} {t' : Nat} (I : Inv X pins σ H s) (hv : Vals ys its) (hz : ys.length ≤ sizeLine) :
    Inv X pins σ (upd H s.heap.objs.size (.lst ys)) { s with heap := s.heap.push { cls := .type "list", data := .seq its.toArray }, toks := t' } :=
  I.laid (fun _ _ q => Heap.get?_push_of_some _ q) (Nat.le_refl _) ⟨hz, its, 0, hv, Heap.get?_push_size _ rfl⟩
theorem Inv.fresh (I : Inv X pins σ H s) : H s.heap.objs.size = none := I.hok.fresh (Nat.le_refl _)
theorem Inv.lstM (I : Inv X pins σ H s) (hH : H l = some (.lst xs)) : xs.length ≤ sizeLine ∧ ∃ (its : List Value) (n : Nat), Vals xs its ∧ xs.length = its.length ∧ s.heap.get? l = some { cls := .type "list", data := .seq its.toArray n } := by
  obtain ⟨z, its, n, r, e⟩ := I.hok l _ hH
  exact ⟨z, its, n, r, r.length, e⟩
theorem notLongL {n : Nat} (h : n ≤ sizeLine) : Builtin.List.listTooLong n = false := by
  unfold Builtin.List.listTooLong
  exact decide_eq_false (by omega)
end
section
variable {X : Cx}
noncomputable def rAppend : V → List V → Hp → VK → Prop := fun x vs H Q => ∃ l xs y, x = .ref l ∧ vs = [y] ∧ H l = some (.lst xs) ∧ xs.length < sizeLine ∧ Q .non (upd H l (.lst (xs ++ [y])))
theorem mt_append : MtM X "list.append" rAppend := by
  intro pins s σ H x vs v us Q I rx rv h
  obtain ⟨l, xs, y, rfl, rfl, hH, hz, q⟩ := h
  cases rx
  obtain ⟨u, rfl, ru⟩ := rv.one
  obtain ⟨z, its, n, r, hl, e⟩ := I.lstM hH
  refine call_meets F.slot_list_append ⟨_, e, rfl⟩ F.entry_list_append (F.args_list_append_2 _ _) (PySem.list_append l its.toArray n u (by rw [List.size_toArray]; omega)) ⟨e, ?_⟩
  refine ⟨.non, _, I.lset (its' := its ++ [u]) hH e (by simp) (r.append (.cons ru .nil)) ?_, rfl, q⟩
  rw [List.length_append, List.length_singleton]
  omega
noncomputable def rExtend : V → List V → Hp → VK → Prop := fun x vs H Q => ∃ l b xs zs, x = .ref l ∧ vs = [.ref b] ∧ H l = some (.lst xs) ∧ H b = some (.lst zs) ∧ xs.length + zs.length ≤ sizeLine ∧ Q .non (upd H l (.lst (xs ++ zs)))
theorem mt_extend : MtM X "list.extend" rExtend := by
  intro pins s σ H x vs v us Q I rx rv h
  obtain ⟨l, b, xs, zs, rfl, rfl, hH, hB, hz, q⟩ := h
  cases rx
  obtain ⟨u, rfl, ru⟩ := rv.one
  cases ru
  obtain ⟨z, its, n, r, hl, e⟩ := I.lstM hH
  obtain ⟨z2, its2, n2, r2, hl2, e2⟩ := I.lstM hB
  have hsz : its.toArray.size + its2.toArray.size ≤ sizeLine := by rw [List.size_toArray, List.size_toArray]; omega
  have hlong : ¬ (!its.toArray.isEmpty && Builtin.List.listTooLong (its.toArray.size + its2.toArray.size)) = true := by
    rw [notLongL hsz, Bool.and_false]
    exact Bool.false_ne_true
  refine call_meets F.slot_list_extend ⟨_, e, rfl⟩ F.entry_list_extend (F.args_list_extend_2 _ _)
    (AutoSeq1.list_extend_list_list_0 l its.toArray n b its2.toArray n2 hlong (by rw [List.size_toArray]; omega) (by omega)) ⟨e, e2, ?_⟩
  refine ⟨.non, _, I.lset (its' := its ++ its2) hH e (by simp) (r.append r2) ?_, rfl, q⟩
  rw [List.length_append]
  omega
noncomputable def rPop : V → List V → Hp → VK → Prop := fun x vs H Q => ∃ l xs y, x = .ref l ∧ vs = [] ∧ H l = some (.lst xs) ∧ xs[xs.length - 1]? = some y ∧ Q y (upd H l (.lst xs.dropLast))
theorem mt_pop : MtM X "list.pop" rPop := by
  intro pins s σ H x vs v us Q I rx rv h
  obtain ⟨l, xs, y, rfl, rfl, hH, hy, q⟩ := h
  cases rx
  have hus := rv.zero
  subst hus
  obtain ⟨z, its, n, r, hl, e⟩ := I.lstM hH
  obtain ⟨u, hu, ru⟩ := r.get hy
  have hy' : its.toArray[its.toArray.size - 1]? = some u := by
    show its.toArray[its.length - 1]? = some u
    rw [← Array.getElem?_toList, ← hl]
    exact hu
  refine call_meets F.slot_list_pop ⟨_, e, rfl⟩ F.entry_list_pop (F.args_list_pop_1 _) (MeetsSeq.list_pop_last l its.toArray n u hy' (by rw [List.size_toArray]; omega)) ⟨e, ?_⟩
  refine ⟨y, _, I.lset (its' := its.dropLast) hH e ?_ r.dropLast ?_, ru, q⟩
  · show its.toArray.eraseIdxIfInBounds (its.toArray.size - 1) = its.dropLast.toArray
    rw [List.size_toArray, List.eraseIdxIfInBounds_toArray, erase_last]
  · rw [List.length_dropLast]
    omega
noncomputable def rCat : R2 := fun x y H Q => ∃ l b xs zs, x = .ref l ∧ y = .ref b ∧ H l = some (.lst xs) ∧ H b = some (.lst zs) ∧ xs.length + zs.length ≤ sizeLine ∧ ∀ p, H p = none → Q (.ref p) (upd H p (.lst (xs ++ zs)))
theorem op_cat : OpR X (binaryOp .Add) rCat := by
  intro pins s σ H x y v u Q I rx ry h
  obtain ⟨l, b, xs, zs, rfl, rfl, hH, hB, hz, q⟩ := h
  cases rx
  cases ry
  obtain ⟨z, its, n, r, hl, e⟩ := I.lstM hH
  obtain ⟨z2, its2, n2, r2, hl2, e2⟩ := I.lstM hB
  refine PySem.P.add_list e e2 ?_ (by rw [List.size_toArray, List.size_toArray]; omega)
  have ea : its.toArray ++ its2.toArray = (its ++ its2).toArray := by simp
  rw [ea]
  exact ⟨.ref _, _, I.lnew (t' := s.toks) (r.append r2) (by rw [List.length_append]; omega), rfl, q _ I.fresh⟩
noncomputable def rRep : R2 := fun x y H Q => ∃ l k xs, x = .ref l ∧ y = .int k ∧ H l = some (.lst xs) ∧ -(2 ^ 63) ≤ k ∧ k < 2 ^ 63 ∧ xs.length * k.toNat ≤ sizeLine ∧
  ∀ p, H p = none → Q (.ref p) (upd H p (.lst (List.replicate k.toNat xs).flatten))
theorem len_rep {α : Type} (xs : List α) (k : Nat) : (List.replicate k xs).flatten.length = k * xs.length := by
  induction k with
  | zero => simp
  | succ k ih => rw [List.replicate_succ, List.flatten_cons, List.length_append, ih, Nat.succ_mul, Nat.add_comm]
theorem op_rep : OpR X (binaryOp .Mult) rRep := by
  intro pins s σ H x y v u Q I rx ry h
  obtain ⟨l, k, xs, rfl, rfl, hH, h1, h2, hz, q⟩ := h
  cases rx
  obtain ⟨t, rfl⟩ := ry
  obtain ⟨z, its, n, r, hl, e⟩ := I.lstM hH
  have hlen : its.toArray.size * k.toNat ≤ sizeLine := by rw [List.size_toArray, ← hl]; exact hz
  have hcap : ¬ its.toArray.size * k.toNat > (2 ^ 63 - 1) / 8 := by
    have : (sizeLine : Nat) ≤ (2 ^ 63 - 1) / 8 := by decide
    omega
  have hfit : ¬ (!Builtin.List.listFitsIndex k) = true := by
    rw [fitsIndex_both h1 h2]
    exact Bool.false_ne_true
  have hlong : ¬ Builtin.List.listTooLong (its.toArray.size * k.toNat) = true := by
    rw [notLongL hlen]
    exact Bool.false_ne_true
  have hnew : List.foldl (fun x1 x2 => x1 ++ x2) #[] (List.replicate (if its.toArray.isEmpty = true then 0 else k.toNat) its.toArray) = (List.replicate k.toNat its).flatten.toArray := by
    have f0 : ∀ m : Nat, List.foldl (fun x1 x2 => x1 ++ x2) #[] (List.replicate m its.toArray) = (List.replicate m its).flatten.toArray := fun m => by
      have := foldl_rep its m []
      rw [List.nil_append] at this
      exact this
    rw [f0]
    cases its with
    | nil => simp
    | cons a r' => rw [if_neg (by simp)]
  refine wpAny_binaryOp_repeat_ref (T := "list") (U := "int") (by decide) ⟨_, e, rfl⟩ (fun s' => typeIs_int s' k t) noFill_list_mul F.fills_int_mul F.slot_int_rmul repeat_list F.slot_int_index.lookup
    (call_meets F.slot_int_rmul (typeIs_int s k t) F.entry_int_rmul (F.args_int_rmul_2 _ _) (int___rmul___int_list k t l its.toArray n)
      ⟨e, rfl, ⟨_, e, rfl⟩, call_meets F.slot_list_mul ⟨_, e, rfl⟩ F.entry_list_mul (F.args_list_mul_2 _ _) (AutoListH.list___mul___list_int_3 l its.toArray n k t hfit hcap hlong) ⟨e, ?_⟩⟩)
  rw [hnew]
  exact ⟨.ref _, _, I.lnew (t' := s.toks) (r.rep k.toNat) (by rw [len_rep, Nat.mul_comm]; exact hz), rfl, q _ I.fresh⟩
end
section
variable {prog : Program} {w : World} {A : Around} {E : Value → Shared → Prop} {s : Shared}
set_option maxRecDepth 100000 in
end
section
variable {X : Cx}
end
end L2
namespace L2
open PySem PySem.Spec PyProof.Rows
section
variable {κ : Type} [DecidableEq κ]
noncomputable def valV (kvs : List (κ × V)) (k : κ) : Option V := (kvs.find? fun kv => decide (kv.1 = k)).map (·.2)
theorem valV_pos {p : κ × V} {r : List (κ × V)} {k : κ} (e : p.1 = k) : valV (p :: r) k = some p.2 := by simp [valV, List.find?_cons, e]
theorem valV_neg {p : κ × V} {r : List (κ × V)} {k : κ} (e : ¬ p.1 = k) : valV (p :: r) k = valV r k := by simp [valV, List.find?_cons, e]
theorem RelO.isSome_eq {o : Option V} {u : Option Value} (r : RelO o u) : o.isSome = u.isSome := by
  cases o with
  | none => cases u with
    | none => rfl
    | some _ => exact (show False from r).elim
  | some _ => cases u with
    | none => exact (show False from r).elim
    | some _ => rfl
theorem KV.val {kvs : List (κ × V)} {vs : List (κ × Value)} (r : KV kvs vs) (k : κ) : RelO (valV kvs k) (valueAt vs k) := by
  unfold KV at r
  induction r with
  | nil => exact True.intro
  | @cons p q ps qs h t ih =>
    obtain ⟨h1, h2⟩ := h
    by_cases e : p.1 = k
    · have e' : q.1 = k := h1.symm.trans e
      have b : valueAt (q :: qs) k = some q.2 := by simp [valueAt, List.find?_cons, e']
      rw [valV_pos e, b]; exact h2
    · have e' : ¬ q.1 = k := fun z => e (h1.trans z)
      have b : valueAt (q :: qs) k = valueAt qs k := by simp [valueAt, List.find?_cons, e']
      rw [valV_neg e, b]; exact ih
theorem KV.length {kvs : List (κ × V)} {vs : List (κ × Value)} (r : KV kvs vs) : kvs.length = vs.length := Paired.length r
end
theorem kV_is {P : Program} {w : World} {k : Key} {u : Value} (r : RelV (kV k) u) : (mixKind P w).is k u = true := by
  cases k with
  | inl i => obtain ⟨t, e⟩ := (show ∃ t, u = Value.int i t from r); subst e; exact mixKind_int P w i t
  | inr x => obtain ⟨t, e⟩ := (show ∃ t, u = Value.str x t from r); subst e; exact mixKind_str P w x t
theorem items_are {P : Program} {w : World} : ∀ {ks : List Key} {us : List Value}, Vals (ks.map kV) us → ItemsAre (mixKind P w) ks us
  | [], _, r => by rw [List.map_nil] at r; cases r; exact .nil
  | k :: ks, _, r => by
    rw [List.map_cons] at r
    cases r with
    | cons h t => exact .cons (kV_is h) (items_are t)
noncomputable abbrev KT (H : Hp) : List (List Key × V) → List (List Key × Addr × Value) → Prop := Paired fun p q => p.1 = q.1 ∧ H q.2.1 = some (.tup (p.1.map kV)) ∧ RelV p.2 q.2.2
theorem KT.val {H : Hp} {kvs : List (List Key × V)} {xs : List (List Key × Addr × Value)} (r : KT H kvs xs) (k : List Key) : RelO (valV kvs k) ((atKey xs k).map (·.2)) := by
  induction r with
  | nil => exact True.intro
  | @cons p q ps qs h t ih =>
    obtain ⟨h1, _, h2⟩ := h
    by_cases e : p.1 = k
    · have e' : q.1 = k := h1.symm.trans e
      have b : atKey (q :: qs) k = some q.2 := by simp [atKey, List.find?_cons, e']
      rw [valV_pos e, b]; exact h2
    · have e' : ¬ q.1 = k := fun z => e (h1.trans z)
      have b : atKey (q :: qs) k = atKey qs k := by simp [atKey, List.find?_cons, e']
      rw [valV_neg e, b]; exact ih
section
variable {P : Program} {w : World} {H : Hp} {h : Heap} {a : Addr}
theorem rd_of {u : HO} (ok : HOk P w H h) (e : Rd H a u) : ObjOk P w H h a u := e.ok ok
theorem dk_rd {kvs : List (Key × V)} (ok : HOk P w H h) (e : Rd H a (.dK kvs)) : kvs.length ≤ sizeLine ∧ (a == sysModules) = false ∧ ∃ vs, KV kvs vs ∧ h.DictOf (mixKind P w) a vs :=
  show ObjOk P w H h a (.dK kvs) from rd_of ok e
theorem key_of {ks : List Key} (ok : HOk P w H h) (e : H a = some (.tup (ks.map kV))) : (tupleKind (mixKind P w)).is h ks a := by
  obtain ⟨_, its, r, ⟨o, h1, h2, n, h3⟩, _⟩ := (show ObjOk P w H h a (.tup (ks.map kV)) from ok a _ e)
  exact ⟨o, its.toArray, n, h1, h2, h3, by simpa using items_are r⟩
theorem dt_rd {kvs : List (List Key × V)} (ok : HOk P w H h) (e : Rd H a (.dT kvs)) : kvs.length ≤ sizeLine ∧ (a == sysModules) = false ∧
    ∃ xs, KT H kvs xs ∧ h.DictOfH (tupleKind (mixKind P w)) a xs := by
  obtain ⟨z, y, xs, r, o, es, ep, h1, h2, h3, h4, h5⟩ := (show ObjOk P w H h a (.dT kvs) from rd_of ok e)
  refine ⟨z, y, xs, r, o, es, ep, h1, h2, h3, h4, fun x hx => ?_, h5⟩
  have all : ∀ {l : List (List Key × V)} {m : List (List Key × Addr × Value)}, KT H l m → ∀ x ∈ m, (tupleKind (mixKind P w)).is h x.1 x.2.1 := by
    intro l m q
    induction q with
    | nil => intro x hx; exact nomatch hx
    | @cons p q ps qs hq t ih =>
      intro x hx
      rcases List.mem_cons.mp hx with e | hx
      · subst e
        exact key_of ok (by rw [← hq.1]; exact hq.2.1)
      · exact ih x hx
  exact all r x hx
end
noncomputable def DGet (H : Hp) (a : Addr) (y : V) (r : Option V) : Prop :=
  (∃ kvs k, Rd H a (.dK kvs) ∧ y = kV k ∧ r = valV kvs k) ∨ ∃ kvs k b, Rd H a (.dT kvs) ∧ y = .ref b ∧ H b = some (.tup (k.map kV)) ∧ r = valV kvs k
theorem DGet.k {H : Hp} {a : Addr} {kvs : List (Key × V)} {k : Key} (e : H a = some (.dK kvs)) : DGet H a (kV k) (valV kvs k) := .inl ⟨kvs, k, .inl e, rfl, rfl⟩
section
variable {X : Cx} {pins : List (Addr × Obj)} {σ : St} {H : Hp} {s : Shared} {a : Addr} {y v : V} {u r : Value} {o : Option V} {A : Around} {E : Value → Shared → Prop}
theorem d_getItem {Q : Value → Shared → Prop} (hu : A.units + 1 < cLine) (I : Inv X pins σ H s) (g : DGet H a y (some v)) (ry : RelV y u) (h : ∀ w' s', Inv X pins σ H s' → RelV v w' → Q w' s') :
    wpAny (model X.prog X.w) A (getItem (.ref a) u) Q E s := by
  rcases g with ⟨kvs, k, e, ey, l⟩ | ⟨kvs, k, b, e, ey, eb, l⟩
  · subst ey
    obtain ⟨z, hd, vs, rel, dd⟩ := dk_rd I.hok e
    obtain ⟨w', hw, rw'⟩ := RelO.some_of (v := v) (o := valueAt vs k) (by rw [l]; exact rel.val k)
    exact wpAny_getItem_of (kV_is ry) dd.mapOf hw (h w' _ (I.tok _) rw')
  · subst ey
    cases (show u = Value.ref b from ry)
    obtain ⟨z, hd, xs, rel, dd⟩ := dt_rd I.hok e
    obtain ⟨w', hw, rw'⟩ := RelO.some_of (v := v) (o := (atKey xs k).map (·.2)) (by rw [l]; exact rel.val k)
    obtain ⟨p, hp, hp2⟩ := Option.map_eq_some_iff.mp hw
    refine wpAny_getItem_heap (tupleKind_room_in1 hu) (key_of I.hok eb) dd hp ?_
    rw [hp2]
    exact h w' _ (I.tok _) rw'
theorem d_in {Q : Value → Shared → Prop} (hu : A.units + 1 < cLine) (I : Inv X pins σ H s) (g : DGet H a y o) (ry : RelV y u) (h : ∀ s', Inv X pins σ H s' → Q (.bool o.isSome) s') :
    wpAny (model X.prog X.w) A (compareOp .In u (.ref a)) Q E s := by
  rcases g with ⟨kvs, k, e, ey, l⟩ | ⟨kvs, k, b, e, ey, eb, l⟩
  · subst ey
    obtain ⟨z, hd, vs, rel, dd⟩ := dk_rd I.hok e
    refine wpAny_in_of (kV_is ry) hd dd.mapOf ?_
    rw [← (rel.val k).isSome_eq, ← l]
    exact h _ (I.tok _)
  · subst ey
    cases (show u = Value.ref b from ry)
    obtain ⟨z, hd, xs, rel, dd⟩ := dt_rd I.hok e
    refine wpAny_in_heap (tupleKind_room_in1 hu) (key_of I.hok eb) hd dd ?_
    have q := (rel.val k).isSome_eq
    rw [Option.isSome_map] at q
    rw [← q, ← l]
    exact h _ (I.tok _)
theorem d_notIn {Q : Value → Shared → Prop} (hu : A.units + 1 < cLine) (I : Inv X pins σ H s) (g : DGet H a y o) (ry : RelV y u) (h : ∀ s', Inv X pins σ H s' → Q (.bool (!o.isSome)) s') :
    wpAny (model X.prog X.w) A (compareOp .NotIn u (.ref a)) Q E s := by
  rcases g with ⟨kvs, k, e, ey, l⟩ | ⟨kvs, k, b, e, ey, eb, l⟩
  · subst ey
    obtain ⟨z, hd, vs, rel, dd⟩ := dk_rd I.hok e
    refine wpAny_notIn_of (kV_is ry) hd dd.mapOf ?_
    rw [← (rel.val k).isSome_eq, ← l]
    exact h _ (I.tok _)
  · subst ey
    cases (show u = Value.ref b from ry)
    obtain ⟨z, hd, xs, rel, dd⟩ := dt_rd I.hok e
    refine wpAny_notIn_heap (tupleKind_room_in1 hu) (key_of I.hok eb) hd dd ?_
    have q := (rel.val k).isSome_eq
    rw [Option.isSome_map] at q
    rw [← q, ← l]
    exact h _ (I.tok _)
end
section
variable {X : Cx} {pins : List (Addr × Obj)} {σ : St} {H : Hp} {s : Shared} {a : Addr} {kvs : List (Key × V)} {k : Key} {u : Value} {A : Around} {E : Value → Shared → Prop}
theorem d_len {Q : Value → Shared → Prop} (I : Inv X pins σ H s) (e : Rd H a (.dK kvs)) (h : ∀ t s', Inv X pins σ H s' → Q (.int kvs.length t) s') : wpAny (model X.prog X.w) A (call (.builtin "len") [.ref a]) Q E s := by
  obtain ⟨z, hd, vs, rel, dd⟩ := dk_rd I.hok e
  refine call_len_dict hd dd (by rw [← rel.length]; rw [sizeLine_eq] at z; omega) ?_
  rw [← rel.length]
  exact h _ _ (I.tok _)
end
theorem dict_typeIs {X : Cx} {pins : List (Addr × Obj)} {σ : St} {H : Hp} {s : Shared} {a : Addr} {y : V} {o : Option V} (I : Inv X pins σ H s) (g : DGet H a y o) : s.TypeIs (.ref a) "dict" := by
  rcases g with ⟨kvs, k, e, _, _⟩ | ⟨kvs, k, b, e, _, _, _⟩
  · obtain ⟨_, _, vs, _, dd⟩ := dk_rd I.hok e
    exact dd.typeIs
  · obtain ⟨_, _, xs, _, dd⟩ := dt_rd I.hok e
    exact dd.typeIs
section
variable {X : Cx} {o i e value : Expr} {pos pos' tpos : Pos} {td ty tv : TE}
end
section
variable {X : Cx} {pos : Pos}
end
section
variable {X : Cx} {pins : List (Addr × Obj)} {σ : St} {H : Hp} {s : Shared} {a : Addr} {y d : V} {u r : Value} {o : Option V} {A : Around} {E : Value → Shared → Prop}
end
section
variable {X : Cx} {o e f : Expr} {apos cpos : Pos} {td ty tx : TE}
end
section
variable {X : Cx} {pins : List (Addr × Obj)} {σ : St} {H : Hp} {s : Shared} {a : Addr} {kvs : List (Key × V)} {A : Around} {E : Value → Shared → Prop}
end
section
variable {X : Cx} {pins : List (Addr × Obj)} {σ : St} {H : Hp} {s : Shared} {a : Addr} {y : V} {u : Value} {A : Around} {E : Value → Shared → Prop}
end
end L2
namespace Att
open PySem PySem.W PySem.Calls PyProof.Rows
theorem ints_of_wellAll {P : Params} {h : Heap} : ∀ (ns : List Int) (vs : List Value), WellAll P h vs (ns.map WData.int) → IntsAre vs ns := by
  intro ns
  induction ns with
  | nil =>
    intro vs w
    rw [List.map_nil] at w
    cases w
    exact .nil
  | cons n ns ih =>
    intro vs w
    rw [List.map_cons] at w
    cases w with
    | cons a b =>
      cases a
      exact .cons _ _ (ih _ b)
theorem script_of {l : OpenLaw} {n : Nat} (hn : l.most = some n) {P : Params} {h : Heap} {args : List WData} {vals : List Value}
    (hpre : l.row.toRowW.claim.pre args = true) (hwl : WellAll P h vals args) :
    ∃ a vs ns, vals = [Value.ref a] ∧ args = [WData.list (ns.map WData.int)] ∧ h.get? a = some { cls := .type "list", data := .seq vs.toArray } ∧ IntsAre vs ns ∧ ns.length ≤ n := by
  have hsh : WShape.hasAll [] args [.list .int] = true := (pre_splitW hpre).1
  have hc : l.pre.holds [] { args := args } = true := (pre_splitW hpre).2
  obtain ⟨d, r, rfl, h1, h2⟩ := hasAllW_cons hsh
  obtain rfl := hasAllW_nil h2
  obtain ⟨xs, rfl, h3⟩ := hasW_list h1
  obtain ⟨ns, rfl⟩ := items_int h3
  have hlen : ns.length ≤ n := by
    unfold OpenLaw.pre at hc
    have h4 : (WTm.not (.lt (.lit (.int (n : Int))) (.len (.arg 0)))).holds [] { args := [.list (ns.map .int)] } = true := by
      have h4 := (holds_andW hc).1
      rw [hn] at h4
      exact h4
    have h5 := condW_of h4 (w_not (w_lt w_lit (w_len_list (w_arg rfl))))
    rw [List.length_map] at h5
    refine Nat.le_of_not_lt fun q => ?_
    have q' : (n : Int) < ((ns.length : Nat) : Int) := by omega
    first
      | (rw [decide_eq_true q'] at h5; exact absurd h5 (by decide))
      | (simp at h5; omega)
  cases hwl with
  | cons w1 w2 =>
    cases w2
    cases w1 with
    | list ho hall => exact ⟨_, _, ns, rfl, rfl, ho, ints_of_wellAll ns _ hall, hlen⟩
theorem post_true (l : OpenLaw) (args : List WData) : l.row.toRowW.claim.post args (.bool true) args = true :=
  postW_of (r := l.row.toRowW) (X := (true == true))
    (show WShape.has [] (.bool true) .bool = true by first | rfl | decide | simp [WShape.has, WShape.arms, WShape.armsAll])
    (show (WTm.eq .res (.lit (.bool true))).value [] { args := args, res := some (.bool true), after := args } = some (.bool (true == true)) from w_eq_bool (w_res rfl) w_lit) rfl
theorem attach_call {l : OpenLaw} {n : Nat} {q : Program} {loose : List Str} {XP : (Str → Option Value) → Heap → Prop} {YP : World → Heap → Prop} {d : DefRec}
    (hn : l.most = some n) (hdf : d.params.defaults = [])
    (call : ∀ (w : World) (s₀ s₁ : Shared) (mg mb : Str → Option Value) (fa : Addr) (o : Obj) (pm cd doc : Value) (a : Addr) (vs : List Value) (ns : List Int),
      Ground q loose [] XP w s₀ mg mb s₁.heap → YP w s₁.heap →
      s₁.heap.get? fa = some o → o.data = .func (docDef d.name d.params d.body d.scope pm cd doc) → s₁.heap.CodeRec cd d.name → mg d.name = some (.ref fa) →
      s₁.heap.get? a = some { cls := .type "list", data := .seq vs.toArray } → IntsAre vs ns → ns.length ≤ n → s₁.gens = #[] →
      codeAny (model l.prog w) callerA (.call (.ref fa) ⟨[.ref a], []⟩) (fun r s' => r = .ok (.ret (.bool true)) ∧ OldK s₁.heap s'.heap ∧ s'.os = s₁.os ∧ AllBare s'.gens) s₁) :
    WalkO q loose XP YP l.row.toRowW d [] (fun f vs => PySem.call f vs) := by
  intro w s₀ s₁ mg mb G Y fa o pm cd doc dV kV ho hd hcd hD hmg hg args vals as hpre hlay hrd hwl hlo
  obtain rfl : dV = .none := Dflts.none hD hdf
  obtain rfl : kV = .none := Dflts.noKw hD
  obtain ⟨a, vs, ns, rfl, rfl, hobj, hints, hlen⟩ := script_of hn hpre hwl
  refine enter_call (codeAny_mono (call w s₀ s₁ mg mb fa o pm cd doc a vs ns G Y ho (fd_plain hd) hcd hmg hobj hints hlen hg) fun r s' hq => ?_)
  obtain ⟨rfl, h2, h3, h4⟩ := hq
  exact ⟨.inl ⟨.bool true, .bool true, [], rfl, fun _ => rfl, .bool true, post_true l _, fun _ => ⟨List.Pairwise.nil, fun _ hm => (nomatch hm)⟩⟩, h2, h3, h4⟩
section
variable {prog : Program} {w : World} {A : Around} {E : Value → Shared → Prop} {s : Shared} {K : Frag}
end
end Att
namespace L2
open PySem PySem.Spec PyProof.Rows
theorem vals_ints : ∀ {vs : List Value} {ns : List Int}, IntsAre vs ns → Vals (ns.map V.int) vs
  | _, _, .nil => .nil
  | _, _, .cons n t h => .cons ⟨t, rfl⟩ (vals_ints h)
noncomputable def Only (H : Hp) : Prop := ∀ b, H b = none ∨ ∃ o xs, H b = some (.frz o (.lst xs))
theorem law_call {P : Program} {w : World} {K : PySem.W.Frag} {mg mb : Str → Option Value} {CX : CXT} {k : Nat} {fa a : Addr} {fd : FuncData} {x : Str} {sp : Sp} {s₁ : Shared} {vs : List Value} {ns : List Int}
    (KX : K.In s₁.heap) (hns : s₁.heap.Ns mainGlobals mg) (hb : s₁.heap.Ns builtinsNs mb) (hbb : ∀ x : Str, x ≠ "__name__" → mb x = bootBuiltins x) (hlim : s₁.heap.NoLimit) (hg : s₁.gens = #[])
    (ha : s₁.heap.get? a = some { cls := .type "list", data := .seq vs.toArray }) (hi : IntsAre vs ns) (hl : ns.length ≤ sizeLine) (hr : Room k callerA)
    (F : ∀ base : Heap, K.In base → base.Ns mainGlobals mg → FnOk P w K mg base CX k fa fd [x] sp) (hbind : ∀ (s : Shared) (u : Value), BindsTo s fd ⟨[u], []⟩ [(x, u)])
    (hsp : ∀ H : Hp, Only H → SqL K H a (ns.map V.int) → (∀ o, K.lookup a = some o → o.slots = #[]) → sp [.ref a] H (fun v _ => v = .bl true) fun _ _ _ => False)
    (hCX : ∀ H e s', CX [] H s₁ (fun _ _ _ => False) e s' → False) :
    codeAny (model P w) callerA (.call (.ref fa) ⟨[.ref a], []⟩) (fun r s' => r = .ok (.ret (.bool true)) ∧ OldK s₁.heap s'.heap ∧ s'.os = s₁.os ∧ AllBare s'.gens) s₁ := by
  have rv := vals_ints hi
  have lenV := hi.length
  -- from an abstract heap in which nothing but the script may be tracked
  have core : ∀ H : Hp, Only H → SqL K H a (ns.map V.int) → HOk P w H s₁.heap → (∀ b, H b ≠ none → b = a) → (H a ≠ none → K.lookup a = none) →
      codeAny (model P w) callerA (.call (.ref fa) ⟨[.ref a], []⟩) (fun r s' => r = .ok (.ret (.bool true)) ∧ OldK s₁.heap s'.heap ∧ s'.os = s₁.os ∧ AllBare s'.gens) s₁ := by
    intro H hO hS hok hA hK
    have base_of : ∀ {b : Addr} {o : Obj}, s₁.heap.get? b = some o → H b = none → (hidT s₁.heap H).get? b = some o := fun e n => hidT_get e n
    have noA : ∀ {b : Addr} {o : Obj} {es : Array DictEntry} {ep : Nat}, s₁.heap.get? b = some o → o.data = .dict es ep → H b = none := fun {b o es ep} e d => by
      cases q : H b with
      | none => rfl
      | some u =>
        have e' : b = a := hA b (by rw [q]; simp)
        subst e'
        rw [ha] at e; cases e
        have d' : Data.seq vs.toArray _ = Data.dict es ep := d
        cases d'
    have nsK : ∀ {b : Addr} {m : Str → Option Value}, s₁.heap.Ns b m → (hidT s₁.heap H).Ns b m := fun {b m} ⟨o, es, ep, e, d, r⟩ => ⟨o, es, ep, base_of e (noA e d), d, r⟩
    have hKb : K.In (hidT s₁.heap H) := fun b o e => base_of (KX b o e) (by
      cases q : H b with
      | none => rfl
      | some u =>
        have e' : b = a := hA b (by rw [q]; simp)
        subst e'
        rw [hK (by rw [q]; simp)] at e; cases e)
    have hM : Mod K mg (hidT s₁.heap H) := ⟨hKb, nsK hns, ⟨mb, nsK hb, hbb⟩, let ⟨mc, h1, h2⟩ := hlim; ⟨mc, nsK h1, h2⟩⟩
    have e0 : Env0 P w K mg (hidT s₁.heap H) callerA [] s₁ H := ⟨rfl, hM, fun b o e => of_hidT e, Nat.le_of_eq (hidT_size _ _), trivial, fun b hb => absurd (show b ∈ ([] : List Addr) from hb) (by simp), hok, .of_eq hg⟩
    refine codeAny_mono ((F _ hKb (nsK hns)).run callerA [] s₁ H ⟨[.ref a], []⟩ [.ref a] [.ref a] _ _ hr e0 (hbind s₁ (.ref a)) (.cons rfl .nil) (hsp H hO hS (fun o e => by have e' := KX a o e; rw [ha] at e'; cases e'; rfl))) fun r s' h => ?_
    cases r with
    | error e => exact (hCX H e s' h).elim
    | ok fl =>
      cases fl with
      | next => exact False.elim h
      | brk => exact False.elim h
      | cont => exact False.elim h
      | ret u =>
        obtain ⟨v, H', os, bare, un, hok', r', q⟩ := h
        have q' : v = .bl true := q
        subst q'
        obtain rfl : u = Value.bool true := r'
        refine ⟨rfl, OldK.of_keep fun b o e => ?_, os, bare⟩
        cases q : H b with
        | none => exact un.keep b o e q (by intro z; exact absurd (show b ∈ ([] : List Addr) from z) (by simp)) (by simp)
        | some u =>
          rcases hO b with z | ⟨ob, xs, z⟩
          · rw [q] at z; cases z
          · have z2 := un.frzs b ob _ z
            obtain ⟨e1, _⟩ := hok b _ z
            obtain ⟨e2, _⟩ := hok' b _ z2
            rw [e] at e1; cases e1
            exact e2
  cases hk : K.lookup a with
  | some o =>
    -- the script is one of the module's own objects
    have e := KX a o hk
    rw [ha] at e
    cases e
    refine core (fun _ => none) (fun _ => .inl rfl) (.inr ⟨_, vs.toArray, _, hk, rfl, rfl, rfl, by rw [List.size_toArray, lenV]; exact hl, by simpa using rv⟩) (fun b u z => by have z' : (none : Option HO) = some u := z; cases z') (fun b z => absurd rfl z) fun z => absurd rfl z
  | none =>
    refine core (fun b => if b = a then some (.frz { cls := .type "list", data := .seq vs.toArray } (.lst (ns.map V.int))) else none) (fun b => ?_) (.inl (.inr ⟨{ cls := .type "list", data := .seq vs.toArray }, if_pos rfl⟩)) (fun b u z => ?_) (fun b z => ?_) fun _ => hk
    · by_cases hb : b = a
      · exact .inr ⟨_, _, if_pos hb⟩
      · exact .inl (if_neg hb)
    · by_cases hb : b = a
      · have z' := (if_pos hb).symm.trans z
        cases z'
        subst hb
        exact ⟨ha, by rw [List.length_map]; exact hl, vs, _, rv, ha⟩
      · have z' := (if_neg hb).symm.trans z
        cases z'
    · by_cases hb : b = a
      · exact hb
      · exact absurd (if_neg hb) z
end L2
namespace L2
open PySem PySem.Spec PyProof.Rows
theorem walk_of {l : PySem.W.OpenLaw} {n k : Nat} {q : Program} {loose : List Str} {XP : (Str → Option Value) → Heap → Prop} {YP : World → Heap → Prop} {d : DefRec} {K : Params → PySem.W.Frag} {CX : World → CXT} {sp : World → Sp} {x : Str}
    (hn : l.most = some n) (hn2 : n ≤ sizeLine) (hdf : d.params.defaults = []) (hr : Room k callerA)
    (hY : ∀ (w : World) (h : Heap), YP w h → (K w.params).In h)
    (F : ∀ (w : World) (mg : Str → Option Value) (fa : Addr) (h : Heap), (K w.params).In h → h.Ns mainGlobals mg → mg d.name = some (.ref fa) →
      ∃ fd : FuncData, (∀ (s : Shared) (u : Value), BindsTo s fd ⟨[u], []⟩ [(x, u)]) ∧
        ∀ base : Heap, (K w.params).In base → base.Ns mainGlobals mg → FnOk l.prog w (K w.params) mg base (CX w) k fa fd [x] (sp w))
    (hsp : ∀ (w : World) (H : Hp) (a : Addr) (ns : List Int), ns.length ≤ n → Only H → SqL (K w.params) H a (ns.map V.int) → (∀ o, (K w.params).lookup a = some o → o.slots = #[]) → sp w [.ref a] H (fun v _ => v = .bl true) fun _ _ _ => False)
    (hCX : ∀ (w : World) (H : Hp) (s : Shared) (e : Value) (s' : Shared), CX w [] H s (fun _ _ _ => False) e s' → False) :
    PySem.W.WalkO q loose XP YP l.row.toRowW d [] (fun f vs => PySem.call f vs) := by
  refine Att.attach_call hn hdf fun w s₀ s₁ mg mb fa o pm cd doc a vs ns G Y ho hd hcd hmg hobj hints hlen hg => ?_
  have KX := hY w _ Y
  obtain ⟨fd, hb, hF⟩ := F w mg fa _ KX G.T.g hmg
  exact law_call KX G.T.g G.T.b G.T.builtins G.T.nolimit hg hobj hints (Nat.le_trans hlen hn2) hr hF hb (fun H hO hS => hsp w H a ns hlen hO hS) fun H e s' => hCX w H s₁ e s'
end L2
namespace L2
open PySem PySem.Spec PyProof.Rows
noncomputable def defArgs (s : Stmt) : Arguments := match s with
  | .FunctionDef _ a _ _ _ _ _ _ _ _ => a
  | _ => { posonlyargs := [], args := [], vararg := none, kwonlyargs := [], kw_defaults := [], kwarg := none, defaults := [] }
noncomputable def defBody (s : Stmt) : List Stmt := match s with
  | .FunctionDef _ _ b _ _ _ _ _ _ _ => b
  | _ => []
noncomputable def defScope (s : Stmt) : Scope := match s with
  | .FunctionDef _ _ _ _ _ _ sc _ _ _ => sc
  | _ => { kind := .function, names := [], isGenerator := false, isCoroutine := false }
noncomputable abbrev CX0 : CXT := fun _ _ _ _ _ _ => False
noncomputable abbrev E0 : XK := fun _ _ _ => False
theorem pass0 {X : Cx} : Passes CX0 X E0 := fun _ _ _ _ _ _ _ h => h.elim
structure Fun (K : PySem.W.Frag) (x qual : Str) (st : Stmt) (f : Addr) (fd : FuncData) : Prop where
  ex : ∃ (oc : Value) (od : Option Addr) (kV doc pm : Value) (an : Option Addr) (cdv ct : Value) (osl : Array (Option Value)),
    fd = PySem.W.fnOf x qual (defArgs st) (defBody st) (defScope st) .none kV doc pm an cdv ct ∧ K.lookup f = some ⟨oc, od, .func fd, osl⟩ ∧ PySem.W.codeIn K cdv qual = true
  kp : PySem.W.keepIn K (.ref f) = true
section
variable {P : Program} {w : World} {K : PySem.W.Frag} {mg : Str → Option Value} {base : Heap}
theorem Fun.ok {x qual : Str} {st : Stmt} {f : Addr} {fd : FuncData} {N ps : List Str} {k : Nat} {sp : Sp} (F : Fun K x qual st f fd) (S : FnScope N ps (defScope st)) (len : ∀ vs H Q E, sp vs H Q E → vs.length = ps.length)
    (hbody : ∀ (cdv : Value) (A : Around) (outer : List Env) (s : Shared) (H : Hp) (vs : List V) (Q : VK) (E : XK), Room k (A.deeper (envOfC qual (defScope st) s.heap.objs.size f cdv)) → sp vs H Q E →
      ∃ t, PSs (cxOf CX0 P w K mg base N qual (defScope st) f cdv A outer s H E).nox (defBody st) t ∧ t { nx := fun _ H' => Q .non H', rt := Q } (start N vs) H) : FnOk P w K mg base CX0 (k + 1) f fd ps sp := by
  obtain ⟨oc, od, kV, doc, pm, an, cdv, ct, osl, rfl, lk, hcd⟩ := F.ex
  refine fn_of lk hcd S len fun A outer s H vs Q E hr hsp => ?_
  obtain ⟨t, h, q⟩ := hbody cdv A outer s H vs Q E hr hsp
  exact ⟨t, h.nox, q⟩
theorem Fun.binds {x qual : Str} {st : Stmt} {f : Addr} {fd : FuncData} {ps : List Str} (F : Fun K x qual st f fd)
    (h : ∀ (kV doc pm : Value) (an : Option Addr) (cdv ct : Value) (us : List Value), us.length = ps.length → bindArgs (PySem.W.fnOf x qual (defArgs st) (defBody st) (defScope st) .none kV doc pm an cdv ct) ⟨us, []⟩ = pure (ps.zip us)) : Binds K fd ps [] := by
  obtain ⟨oc, od, kV, doc, pm, an, cdv, ct, osl, rfl, lk, hcd⟩ := F.ex
  exact .all (h kV doc pm an cdv ct)
theorem fun_mk {x qual : Str} {st : Stmt} {f : Addr} {oc : Value} {od an : Option Addr} {osl : Array (Option Value)} {kV doc pm cdv ct : Value} (l : K.lookup f = some ⟨oc, od, .func (PySem.W.fnOf x qual (defArgs st) (defBody st) (defScope st) .none kV doc pm an cdv ct), osl⟩)
    (c : PySem.W.codeIn K cdv qual = true) (k : PySem.W.keepIn K (.ref f) = true) : Fun K x qual st f (PySem.W.fnOf x qual (defArgs st) (defBody st) (defScope st) .none kV doc pm an cdv ct) := ⟨⟨oc, od, kV, doc, pm, an, cdv, ct, osl, rfl, l, c⟩, k⟩
end
section
variable {X : Cx}
theorem call_lenD : CallR X (.builtin "len") (fun xs H Q => ∃ a kvs, xs = [V.ref a] ∧ H a = some (.dK kvs) ∧ Q (.int kvs.length) H) := by
  intro pins s σ H xs us Q I r h
  obtain ⟨a, kvs, rfl, ha, q⟩ := h
  obtain ⟨u, rfl, ru⟩ := vals1 r
  cases ru
  exact d_len I (.inl ha) fun t s' I' => ⟨.int kvs.length, H, I', ⟨t, rfl⟩, q⟩
end
section
variable {κ : Type} [DecidableEq κ]
end
end L2
set_option linter.all false
namespace ZT
open PySem PyProof PyProof.Rows
section
variable {prog : Program} {w : World} {A : Around} {E : Value → Shared → Prop} {s : Shared} {kd : SortKind} {M0 : Keyed → Prop}
end
end ZT
set_option linter.all false
namespace ZT
open PySem PyProof PyProof.Rows
section
variable {prog : Program} {w : World} {A : Around} {E : Value → Shared → Prop} {s : Shared} {kd : SortKind} {M0 : Keyed → Prop} {a₀ : Array Keyed}
end
end ZT
set_option linter.all false
namespace ZT
open PySem PyProof PyProof.Rows
section
variable {prog : Program} {w : World} {A : Around} {E : Value → Shared → Prop} {s : Shared} {kd : SortKind} {M0 : Keyed → Prop} {a₀ : Array Keyed}
end
end ZT
set_option linter.all false
namespace ZT
open PySem PyProof PyProof.Rows
section
variable {prog : Program} {w : World} {A : Around} {E : Value → Shared → Prop} {s : Shared} {kd : SortKind} {M0 : Keyed → Prop} {a₀ : Array Keyed}
end
end ZT
set_option linter.all false
namespace ZT
open PySem PyProof PyProof.Rows
section
variable {prog : Program} {w : World} {A : Around} {E : Value → Shared → Prop} {s : Shared}
end
end ZT
set_option linter.all false
namespace ZT
open PySem
end ZT
set_option linter.all false
set_option maxRecDepth 100000
namespace ZT
open PySem PyProof PyProof.Rows
noncomputable def kv : Value → Int
  | .int k _ => k
  | _ => 0
section
variable {prog : Program} {w : World} {A : Around} {E : Value → Shared → Prop} {s : Shared} {a : Addr} {ks : List Int} {led : Bool}
end
end ZT
set_option linter.all false
set_option maxRecDepth 100000
set_option maxHeartbeats 4000000
namespace ZT
open PySem PyProof PyProof.Rows
section
variable {prog : Program} {w : World} {A : Around} {R : Result → Shared → Prop} {I a : Addr} {fp wr : List Addr} {G : Array GenState → Array GenState → Prop} {n : Nat} {P : Nat → Value → Prop} {St : Nat → Shared → Prop} {led : Bool}
end
section
variable {prog : Program} {w : World} {A : Around} {E : Value → Shared → Prop} {s : Shared}
end
end ZT
set_option linter.all false
set_option maxRecDepth 100000
set_option maxHeartbeats 4000000
namespace ZT
open PySem PyProof PyProof.Rows
section
variable {prog : Program} {w : World} {A : Around} {E : Value → Shared → Prop} {s : Shared}
end
end ZT
set_option linter.all false
set_option maxRecDepth 100000
set_option maxHeartbeats 4000000
namespace ZT
open PySem PyProof PyProof.Rows
end ZT
set_option linter.all false
set_option maxRecDepth 100000
set_option maxHeartbeats 4000000
namespace ZT
open PySem PyProof PyProof.Rows
section
variable {prog : Program} {w : World} {A : Around} {E : Value → Shared → Prop} {s : Shared} {I a : Addr} {es : Array (Int × Value)} {ep : Nat} {t : SetTable}
end
end ZT
set_option linter.all false
set_option maxRecDepth 100000
set_option maxHeartbeats 4000000
namespace ZT
open PySem PyProof PyProof.Rows
section
variable {prog : Program} {w : World} {A : Around} {E : Value → Shared → Prop} {s : Shared} {I a : Addr} {es : Array (Int × Value)} {ep : Nat} {t : SetTable}
end
end ZT
set_option linter.all false
set_option maxRecDepth 100000
set_option maxHeartbeats 4000000
namespace ZT
open PySem PyProof PyProof.Rows
section
variable {prog : Program} {w : World} {A : Around} {E : Value → Shared → Prop} {s : Shared} {I a T : Addr} {es : Array (Int × Value)} {ep : Nat} {t : SetTable} {L : List Nat}
end
end ZT
set_option linter.all false
set_option maxRecDepth 100000
set_option maxHeartbeats 4000000
namespace ZT
open PySem PyProof PyProof.Rows
section
variable {prog : Program} {w : World} {A : Around} {E : Value → Shared → Prop} {s : Shared} {I a T : Addr} {es : Array (Int × Value)} {ep : Nat} {t : SetTable} {L : List Nat}
end
end ZT
set_option linter.all false
set_option maxRecDepth 100000
set_option maxHeartbeats 4000000
namespace ZT
open PySem PyProof PyProof.Rows
section
variable {prog : Program} {w : World} {A : Around} {E : Value → Shared → Prop} {s : Shared} {a : Addr} {ks : List Int}
end
end ZT
set_option linter.all false
set_option maxRecDepth 100000
set_option maxHeartbeats 4000000
namespace ZS
open PySem PySem.Spec PyProof.Rows L2
theorem nodup_inj {α : Type} : ∀ {l : List α}, l.Nodup → ∀ {i j : Nat} {x : α}, l[i]? = some x → l[j]? = some x → i = j
  | [], _, i, _, _, a, _ => by simp at a
  | y :: l, h, i, j, x, a, b => by
    obtain ⟨h1, h2⟩ := List.nodup_cons.mp h
    cases i with
    | zero =>
      cases j with
      | zero => rfl
      | succ j => simp at a b; subst a; exact absurd (List.mem_of_getElem? b) h1
    | succ i =>
      cases j with
      | zero => simp at a b; subst b; exact absurd (List.mem_of_getElem? a) h1
      | succ j => exact congrArg (· + 1) (nodup_inj h2 (by simpa using a) (by simpa using b))
section
variable (K : PySem.W.Frag) (ρ : List Addr) (H : Hp)
noncomputable def SqF (a : Addr) (xs : List V) : Prop :=
  (∃ o, H a = some (.frz o (.lst xs))) ∨
    ∃ (o : Obj) (its : Array Value) (n : Nat), K.lookup a = some o ∧ o.cls = .type "list" ∧ o.dict = none ∧ o.data = .seq its n ∧ its.size ≤ sizeLine ∧ Vals xs its.toList ∧ o.slots = #[]
mutual
noncomputable def RelD : Z.D → V → Prop
  | .non, v => v = .non
  | .bl b, v => v = .bl b
  | .int i, v => v = .int i
  | .str s, v => v = .str ⟨s.toArray⟩ ∧ s.length ≤ Z.lim
  | .tup xs, v => ∃ a ys, v = .ref a ∧ SqT K H a ys ∧ RelDs xs ys
  | .rol xs, v => ∃ a ys, v = .ref a ∧ SqF K H a ys ∧ RelDs xs ys
  | .ref n, v => ∃ a, v = .ref a ∧ ρ[n]? = some a
noncomputable def RelDs : List Z.D → List V → Prop
  | [], ys => ys = []
  | x :: xs, ys => ∃ y r, ys = y :: r ∧ RelD x y ∧ RelDs xs r
end
noncomputable def kOf : Z.KK → Key
  | .inl i => .inl i
  | .inr s => .inr ⟨s.toArray⟩
noncomputable def RelAO : Z.AO → Addr → Prop
  | .lst xs, a => ∃ ys, H a = some (.lst ys) ∧ RelDs K ρ H xs ys
  | .dct kvs, a => ∃ kvs', H a = some (.dK kvs') ∧ kvs'.map (·.1) = kvs.map (fun p => kOf p.1) ∧ RelDs K ρ H (kvs.map (·.2)) (kvs'.map (·.2)) ∧ ∀ p ∈ kvs, ∀ s, p.1 = Sum.inr s → s.length ≤ Z.lim
  | .exc c, a => ∃ C oe, PySem.W.nsIn K mainGlobals ⟨c.toArray⟩ = some (some (.ref C)) ∧ H a = some (.frz oe (.own 0)) ∧ oe.cls = .ref C ∧ oe.dict = none ∧ PySem.W.notCls oe = true
  | .obj c fs, a => ∃ C dx fs', PySem.W.nsIn K mainGlobals ⟨c.toArray⟩ = some (some (.ref C)) ∧ H a = some (.ins C dx fs') ∧ fs'.map (·.1) = fs.map (fun p => (⟨p.1.toArray⟩ : Str)) ∧ RelDs K ρ H (fs.map (·.2)) (fs'.map (·.2))
end
structure Ext (K : PySem.W.Frag) (ρ : List Addr) (H : Hp) (ρ' : List Addr) (H' : Hp) : Prop where
  pre : ∀ (n : Nat) (a : Addr), ρ[n]? = some a → ρ'[n]? = some a
  tup : ∀ a xs, H a = some (.tup xs) → H' a = some (.tup xs)
  frz : ∀ a o u, H a = some (.frz o u) → H' a = some (.frz o u)
class R0 where
  rho : List Addr
  hp : Hp
variable [R0]
structure Rep (K : PySem.W.Frag) (ρ : List Addr) (h : Z.AH) (H : Hp) : Prop where
  len : ρ.length = h.length
  nd : ρ.Nodup
  ext : Ext K R0.rho R0.hp ρ H
  at_ : ∀ (n : Nat) (o : Z.AO), h[n]? = some o → ∃ a, ρ[n]? = some a ∧ RelAO K ρ H o a
noncomputable def RelL (K : PySem.W.Frag) (ρ : List Addr) (H : Hp) (σ : Z.Lo) (τ : L2.St) : Prop :=
  σ.length = τ.length ∧ ∀ (i : Nat) (d : Z.D), σ[i]? = some (some d) → ∃ v, τ[i]? = some (some v) ∧ RelD K ρ H d v
section
variable {K : PySem.W.Frag} {ρ ρ' ρ'' : List Addr} {H H' H'' : Hp} {h h' : Z.AH}
theorem Ext.refl : Ext K ρ H ρ H := ⟨fun _ _ e => e, fun _ _ e => e, fun _ _ _ e => e⟩
theorem Ext.trans (a : Ext K ρ H ρ' H') (b : Ext K ρ' H' ρ'' H'') : Ext K ρ H ρ'' H'' :=
  ⟨fun n x e => b.pre n x (a.pre n x e), fun x xs e => b.tup x xs (a.tup x xs e), fun x o u e => b.frz x o u (a.frz x o u e)⟩
theorem Ext.sqT (e : Ext K ρ H ρ' H') {a : Addr} {xs : List V} (q : SqT K H a xs) : SqT K H' a xs := by
  rcases q with (q | ⟨o, q⟩) | q
  · exact .inl (.inl (e.tup _ _ q))
  · exact .inl (.inr ⟨o, e.frz _ _ _ q⟩)
  · exact .inr q
theorem Ext.sqF (e : Ext K ρ H ρ' H') {a : Addr} {xs : List V} (q : SqF K H a xs) : SqF K H' a xs := by
  rcases q with ⟨o, q⟩ | q
  · exact .inl ⟨o, e.frz _ _ _ q⟩
  · exact .inr q
theorem SqF.sqL {a : Addr} {xs : List V} (q : SqF K H a xs) : SqL K H a xs := by
  rcases q with ⟨o, q⟩ | ⟨o, its, n, h1, h2, h3, h4, h5, h6, _⟩
  · exact .inl (.inr ⟨o, q⟩)
  · exact .inr ⟨o, its, n, h1, h2, h3, h4, h5, h6⟩
mutual
theorem RelD.mono (e : Ext K ρ H ρ' H') : ∀ (d : Z.D) (v : V), RelD K ρ H d v → RelD K ρ' H' d v
  | .non, _, r => by simp only [RelD] at r ⊢; exact r
  | .bl _, _, r => by simp only [RelD] at r ⊢; exact r
  | .int _, _, r => by simp only [RelD] at r ⊢; exact r
  | .str _, _, r => by simp only [RelD] at r ⊢; exact r
  | .tup xs, v, r => by
    simp only [RelD] at r ⊢
    obtain ⟨a, ys, e1, q, r⟩ := r
    exact ⟨a, ys, e1, e.sqT q, RelDs.mono e xs ys r⟩
  | .rol xs, v, r => by
    simp only [RelD] at r ⊢
    obtain ⟨a, ys, e1, q, r⟩ := r
    exact ⟨a, ys, e1, e.sqF q, RelDs.mono e xs ys r⟩
  | .ref n, v, r => by
    simp only [RelD] at r ⊢
    obtain ⟨a, e1, q⟩ := r
    exact ⟨a, e1, e.pre _ _ q⟩
theorem RelDs.mono (e : Ext K ρ H ρ' H') : ∀ (d : List Z.D) (v : List V), RelDs K ρ H d v → RelDs K ρ' H' d v
  | [], _, r => by simp only [RelDs] at r ⊢; exact r
  | x :: xs, v, r => by
    simp only [RelDs] at r ⊢
    obtain ⟨y, t, e1, q, r⟩ := r
    exact ⟨y, t, e1, RelD.mono e x y q, RelDs.mono e xs t r⟩
end
theorem RelDs.length : ∀ {xs : List Z.D} {ys : List V}, RelDs K ρ H xs ys → xs.length = ys.length
  | [], _, r => by simp only [RelDs] at r; subst r; rfl
  | x :: xs, _, r => by
    simp only [RelDs] at r
    obtain ⟨y, t, rfl, _, r⟩ := r
    simp [RelDs.length r]
theorem RelDs.get : ∀ {xs : List Z.D} {ys : List V} {i : Nat} {x : Z.D}, RelDs K ρ H xs ys → xs[i]? = some x → ∃ y, ys[i]? = some y ∧ RelD K ρ H x y
  | [], _, _, _, _, e => by simp at e
  | x :: xs, _, i, z, r, e => by
    simp only [RelDs] at r
    obtain ⟨y, t, rfl, q, r⟩ := r
    cases i with
    | zero => simp at e; subst e; exact ⟨y, by simp, q⟩
    | succ i => obtain ⟨w, e1, e2⟩ := RelDs.get (i := i) r (by simpa using e); exact ⟨w, by simpa using e1, e2⟩
theorem RelDs.append : ∀ {xs xs' : List Z.D} {ys ys' : List V}, RelDs K ρ H xs ys → RelDs K ρ H xs' ys' → RelDs K ρ H (xs ++ xs') (ys ++ ys')
  | [], _, _, _, r, r' => by simp only [RelDs] at r; subst r; exact r'
  | x :: xs, _, _, _, r, r' => by
    simp only [RelDs] at r
    obtain ⟨y, t, rfl, q, r⟩ := r
    show RelDs K ρ H (x :: (xs ++ _)) (y :: (t ++ _))
    simp only [RelDs]
    exact ⟨y, _, rfl, q, RelDs.append r r'⟩
theorem RelDs.one {x : Z.D} {y : V} (r : RelD K ρ H x y) : RelDs K ρ H [x] [y] := by
  simp only [RelDs]; exact ⟨y, [], rfl, r, rfl⟩
theorem RelDs.take : ∀ {xs : List Z.D} {ys : List V} (n : Nat), RelDs K ρ H xs ys → RelDs K ρ H (xs.take n) (ys.take n)
  | [], _, n, r => by simp only [RelDs] at r; subst r; simp [RelDs]
  | x :: xs, _, 0, r => by simp [RelDs]
  | x :: xs, _, n + 1, r => by
    simp only [RelDs] at r
    obtain ⟨y, t, rfl, q, r⟩ := r
    simp only [List.take_succ_cons, RelDs]
    exact ⟨y, _, rfl, q, RelDs.take n r⟩
theorem RelDs.drop : ∀ {xs : List Z.D} {ys : List V} (n : Nat), RelDs K ρ H xs ys → RelDs K ρ H (xs.drop n) (ys.drop n)
  | [], _, n, r => by simp only [RelDs] at r; subst r; simp [RelDs]
  | x :: xs, _, 0, r => r
  | x :: xs, _, n + 1, r => by
    simp only [RelDs] at r
    obtain ⟨y, t, rfl, q, r⟩ := r
    simpa using RelDs.drop n r
theorem RelDs.dropLast : ∀ {xs : List Z.D} {ys : List V}, RelDs K ρ H xs ys → RelDs K ρ H xs.dropLast ys.dropLast := fun {xs ys} r => by
  rw [List.dropLast_eq_take, List.dropLast_eq_take, ← r.length]
  exact r.take _
theorem RelAO.mono (e : Ext K ρ H ρ' H') {o : Z.AO} {a : Addr} (hs : H' a = H a) (r : RelAO K ρ H o a) : RelAO K ρ' H' o a := by
  cases o with
  | lst xs =>
    obtain ⟨ys, q, r⟩ := r
    exact ⟨ys, hs.trans q, RelDs.mono e _ _ r⟩
  | dct kvs =>
    obtain ⟨ys, q, q2, r, q3⟩ := r
    exact ⟨ys, hs.trans q, q2, RelDs.mono e _ _ r, q3⟩
  | obj c fs =>
    obtain ⟨C, dx, fs', hc, q, q2, r⟩ := r
    exact ⟨C, dx, fs', hc, hs.trans q, q2, RelDs.mono e _ _ r⟩
  | exc c =>
    obtain ⟨C, oe, hc, q, q2⟩ := r
    exact ⟨C, oe, hc, hs.trans q, q2⟩
theorem RelAO.some {o : Z.AO} {a : Addr} (r : RelAO K ρ H o a) : ∃ u, H a = some u := by
  cases o with
  | lst xs => obtain ⟨ys, q, _⟩ := r; exact ⟨_, q⟩
  | dct kvs => obtain ⟨ys, q, _⟩ := r; exact ⟨_, q⟩
  | obj c fs => obtain ⟨C, dx, fs', hc, q, _⟩ := r; exact ⟨_, q⟩
  | exc c => obtain ⟨C, oe, hc, q, _⟩ := r; exact ⟨_, q⟩
theorem Rep.tracked (R : Rep K ρ h H) {n : Nat} {a : Addr} (e : ρ[n]? = some a) : ∃ u, H a = some u := by
  have hn : n < h.length := by rw [← R.len]; exact (List.getElem?_eq_some_iff.mp e).1
  obtain ⟨b, e1, r⟩ := R.at_ n h[n] (by simp [hn])
  rw [e] at e1; cases e1
  exact r.some
theorem Ext.fresh {p : Addr} {o : HO} (hp : H p = none) : Ext K ρ H ρ (upd H p o) :=
  ⟨fun _ _ e => e, fun a xs e => by rw [upd_ne (ne_of_none e hp)]; exact e, fun a ob u e => by rw [upd_ne (ne_of_none e hp)]; exact e⟩
theorem Ext.alloc {p : Addr} {o : HO} (hp : H p = none) : Ext K ρ H (ρ ++ [p]) (upd H p o) :=
  ⟨fun n a e => by rw [List.getElem?_append_left (List.getElem?_eq_some_iff.mp e).1]; exact e, fun a xs e => by rw [upd_ne (ne_of_none e hp)]; exact e, fun a ob u e => by rw [upd_ne (ne_of_none e hp)]; exact e⟩
theorem Rep.fresh (R : Rep K ρ h H) {p : Addr} {o : HO} (hp : H p = none) : Rep K ρ h (upd H p o) :=
  ⟨R.len, R.nd, R.ext.trans (Ext.fresh hp), fun n ob e => by
    obtain ⟨a, e1, r⟩ := R.at_ n ob e
    obtain ⟨u, hu⟩ := r.some
    exact ⟨a, e1, RelAO.mono (Ext.fresh hp) (upd_ne (ne_of_none hu hp)) r⟩⟩
theorem Rep.alloc (R : Rep K ρ h H) {p : Addr} {o : HO} {ob : Z.AO} (hp : H p = none) (r : RelAO K (ρ ++ [p]) (upd H p o) ob p) : Rep K (ρ ++ [p]) (h ++ [ob]) (upd H p o) := by
  refine ⟨by simp [R.len], ?_, R.ext.trans (Ext.alloc hp), fun n ob' e => ?_⟩
  · refine List.nodup_append.mpr ⟨R.nd, by simp, fun a ha b hb => ?_⟩
    obtain ⟨n, hn, e⟩ := List.getElem_of_mem ha
    obtain ⟨u, hu⟩ := R.tracked (n := n) (a := a) (by rw [List.getElem?_eq_getElem hn, e])
    rw [List.mem_singleton] at hb
    subst hb
    exact ne_of_none hu hp
  · by_cases hn : n < h.length
    · rw [List.getElem?_append_left hn] at e
      obtain ⟨a, e1, r1⟩ := R.at_ n ob' e
      obtain ⟨u, hu⟩ := r1.some
      exact ⟨a, (Ext.alloc (K := K) (o := o) hp).pre _ _ e1, RelAO.mono (Ext.alloc hp) (upd_ne (ne_of_none hu hp)) r1⟩
    · have hl : n = h.length := by
        have := (List.getElem?_eq_some_iff.mp e).1
        simp at this; omega
      subst hl
      rw [List.getElem?_append_right (Nat.le_refl _)] at e
      simp at e
      subst e
      exact ⟨p, by rw [← R.len, List.getElem?_append_right (Nat.le_refl _)]; simp, r⟩
theorem Ext.write {a : Addr} {o u : HO} (hu : H a = some u) (h1 : ∀ xs, u ≠ .tup xs) (h2 : ∀ ob w, u ≠ .frz ob w) : Ext K ρ H ρ (upd H a o) :=
  ⟨fun _ _ e => e, fun b xs e => by rw [upd_ne (ne_of e hu fun z => h1 xs z.symm)]; exact e, fun b ob w e => by rw [upd_ne (ne_of e hu fun z => h2 ob w z.symm)]; exact e⟩
theorem Rep.write (R : Rep K ρ h H) {n : Nat} {a : Addr} {o u : HO} {ob : Z.AO} (hn : ρ[n]? = some a) (hu : H a = some u) (h1 : ∀ xs, u ≠ .tup xs) (h2 : ∀ ob w, u ≠ .frz ob w)
    (r : RelAO K ρ (upd H a o) ob a) : Rep K ρ (h.set n ob) (upd H a o) := by
  refine ⟨by simp [R.len], R.nd, R.ext.trans (Ext.write hu h1 h2), fun m ob' e => ?_⟩
  by_cases hm : m = n
  · subst hm
    rw [List.getElem?_set_self (by rw [← R.len]; exact (List.getElem?_eq_some_iff.mp hn).1)] at e
    cases e
    exact ⟨a, hn, r⟩
  · rw [List.getElem?_set_ne (Ne.symm hm)] at e
    obtain ⟨b, e1, r1⟩ := R.at_ m ob' e
    refine ⟨b, e1, RelAO.mono (Ext.write hu h1 h2) (upd_ne fun z => hm ?_) r1⟩
    subst z
    exact nodup_inj R.nd e1 hn
theorem RelL.mono (e : Ext K ρ H ρ' H') {σ : Z.Lo} {τ : L2.St} (r : RelL K ρ H σ τ) : RelL K ρ' H' σ τ :=
  ⟨r.1, fun i d q => let ⟨v, q1, q2⟩ := r.2 i d q; ⟨v, q1, RelD.mono e d v q2⟩⟩
theorem RelL.set {σ : Z.Lo} {τ : L2.St} {i : Nat} {d : Z.D} {v : V} (r : RelL K ρ H σ τ) (q : RelD K ρ H d v) : RelL K ρ H (σ.set i (some d)) (τ.set i (some v)) := by
  refine ⟨by simp [r.1], fun j e hj => ?_⟩
  by_cases hij : i = j
  · subst hij
    have hl : i < σ.length := by have := (List.getElem?_eq_some_iff.mp hj).1; simpa using this
    rw [List.getElem?_set_self hl] at hj
    cases hj
    exact ⟨v, by rw [List.getElem?_set_self (by rw [← r.1]; exact hl)], q⟩
  · rw [List.getElem?_set_ne hij] at hj
    rw [List.getElem?_set_ne hij]
    exact r.2 j e hj
end
end ZS
set_option linter.all false
set_option maxRecDepth 100000
set_option maxHeartbeats 4000000
namespace ZS
open PySem PySem.Spec PyProof.Rows L2
variable [R0]
noncomputable def upE (K : PySem.W.Frag) (w : Z.Lo → Z.AH → Z.PV → Prop) : TE := fun σ H Q => ∃ ρ h τ Q', Rep K ρ h H ∧ RelL K ρ H τ σ ∧ w τ h Q' ∧
  ∀ d h' ρ' H' v, Ext K ρ H ρ' H' → Rep K ρ' h' H' → RelD K ρ' H' d v → Q' d h' → Q v H'
noncomputable def upEs (K : PySem.W.Frag) (w : Z.Lo → Z.AH → (List Z.D → Z.AH → Prop) → Prop) : TA := fun σ H Q => ∃ ρ h τ Q', Rep K ρ h H ∧ RelL K ρ H τ σ ∧ w τ h Q' ∧
  ∀ ds h' ρ' H' vs, Ext K ρ H ρ' H' → Rep K ρ' h' H' → RelDs K ρ' H' ds vs → Q' ds h' → Q vs H'
noncomputable def upT (K : PySem.W.Frag) (w : Z.Lo → Z.AH → (Bool → Z.AH → Prop) → Prop) : TT := fun σ H Q => ∃ ρ h τ Q', Rep K ρ h H ∧ RelL K ρ H τ σ ∧ w τ h Q' ∧
  ∀ c h' ρ' H', Ext K ρ H ρ' H' → Rep K ρ' h' H' → Q' c h' → Q c H'
structure EnOk (K : PySem.W.Frag) (ρ : List Addr) (H : Hp) (N : Z.En) (D : Ends) : Prop where
  nx : ∀ τ h' ρ' H' σ, Ext K ρ H ρ' H' → Rep K ρ' h' H' → RelL K ρ' H' τ σ → N.nx τ h' → D.nx σ H'
  rt : ∀ d h' ρ' H' v, Ext K ρ H ρ' H' → Rep K ρ' h' H' → RelD K ρ' H' d v → N.rt d h' → D.rt v H'
  bk : ∀ τ h' ρ' H' σ, Ext K ρ H ρ' H' → Rep K ρ' h' H' → RelL K ρ' H' τ σ → N.bk τ h' → D.bk σ H'
  ct : ∀ τ h' ρ' H' σ, Ext K ρ H ρ' H' → Rep K ρ' h' H' → RelL K ρ' H' τ σ → N.ct τ h' → D.ct σ H'
theorem EnOk.mono {K : PySem.W.Frag} {ρ ρ1 : List Addr} {H H1 : Hp} {N : Z.En} {D : Ends} (k : EnOk K ρ H N D) (e : Ext K ρ H ρ1 H1) : EnOk K ρ1 H1 N D :=
  ⟨fun τ h' ρ' H' σ e' => k.nx τ h' ρ' H' σ (e.trans e'), fun d h' ρ' H' v e' => k.rt d h' ρ' H' v (e.trans e'), fun τ h' ρ' H' σ e' => k.bk τ h' ρ' H' σ (e.trans e'), fun τ h' ρ' H' σ e' => k.ct τ h' ρ' H' σ (e.trans e')⟩
noncomputable def upS (K : PySem.W.Frag) (w : Z.En → Z.Lo → Z.AH → Prop) : TS := fun D σ H => ∃ ρ h τ N, Rep K ρ h H ∧ RelL K ρ H τ σ ∧ w N τ h ∧ EnOk K ρ H N D
noncomputable def rP (K : PySem.W.Frag) (sub : Nat → Nat → Bool) (p : Z.Prim) (vs : List V) (H : Hp) (Q : VK) : Prop := ∃ ρ h ds d h', Rep K ρ h H ∧ RelDs K ρ H ds vs ∧ Z.prim sub p ds h = some (d, h') ∧
  ∀ ρ' H' v, Ext K ρ H ρ' H' → Rep K ρ' h' H' → RelD K ρ' H' d v → Q v H'
theorem PEw {X : Cx} {e : Expr} {t t' : TE} (h : PE X e t) (w : ∀ σ H Q, t' σ H Q → t σ H Q) : PE X e t' := fun pins s σ H Q I q => h pins s σ H Q I (w _ _ _ q)
theorem PTw {X : Cx} {e : Expr} {t t' : TT} (h : PT X e t) (w : ∀ σ H Q, t' σ H Q → t σ H Q) : PT X e t' := fun pins s σ H Q I q => h pins s σ H Q I (w _ _ _ q)
theorem PAw {X : Cx} {e : List Expr} {t t' : TA} (h : PA X e t) (w : ∀ σ H Q, t' σ H Q → t σ H Q) : PA X e t' := fun pos pins s σ H Q I q => h pos pins s σ H Q I (w _ _ _ q)
theorem PSw {X : Cx} {e : Stmt} {t t' : TS} (h : PS X e t) (w : ∀ D σ H, t' D σ H → t D σ H) : PS X e t' := fun pins s σ H D I q => h pins s σ H D I (w _ _ _ q)
theorem PSsw {X : Cx} {e : List Stmt} {t t' : TS} (h : PSs X e t) (w : ∀ D σ H, t' D σ H → t D σ H) : PSs X e t' := fun pins s σ H D I q => h pins s σ H D I (w _ _ _ q)
theorem OpRw {X : Cx} {f : Value → Value → Sem Value} {r r' : R2} (h : OpR X f r) (w : ∀ x y H Q, r' x y H Q → r x y H Q) : OpR X f r' := fun pins s σ H x y v u Q I rx ry q => h pins s σ H x y v u Q I rx ry (w _ _ _ _ q)
theorem CallRw {X : Cx} {f : Value} {r r' : List V → Hp → VK → Prop} (h : CallR X f r) (w : ∀ xs H Q, r' xs H Q → r xs H Q) : CallR X f r' := fun pins s σ H x v Q I rx q => h pins s σ H x v Q I rx (w _ _ _ q)
theorem MtRw {X : Cx} {id : String} {r r' : V → List V → Hp → VK → Prop} (h : MtR X id r) (w : ∀ x xs H Q, r' x xs H Q → r x xs H Q) : MtR X id r' := fun pins s σ H x xs v us Q I rx ry q => h pins s σ H x xs v us Q I rx ry (w _ _ _ _ q)
theorem SlRw {X : Cx} {r r' : V → Option Int → Option Int → Hp → VK → Prop} (h : SlR X r) (w : ∀ x lo hi H Q, r' x lo hi H Q → r x lo hi H Q) : SlR X r' := by
  unfold SlR at h ⊢
  intros
  apply h <;> first | assumption | (apply w; assumption)
section
variable {X : Cx} {sub : Nat → Nat → Bool} {Γ : Z.Gam} {E : Z.PX}
noncomputable abbrev LE (X : Cx) (sub : Nat → Nat → Bool) (Γ : Z.Gam) (E : Z.PX) (e : Expr) (i : Z.Ex) : Prop := PE X e (upE X.K (Z.wpE sub Γ E i))
noncomputable abbrev LT (X : Cx) (sub : Nat → Nat → Bool) (Γ : Z.Gam) (E : Z.PX) (e : Expr) (i : Z.Tx) : Prop := PT X e (upT X.K (Z.wpT sub Γ E i))
noncomputable abbrev LA (X : Cx) (sub : Nat → Nat → Bool) (Γ : Z.Gam) (E : Z.PX) (e : List Expr) (i : Z.Exs) : Prop := PA X e (upEs X.K (Z.wpEs sub Γ E i))
noncomputable abbrev LS (X : Cx) (sub : Nat → Nat → Bool) (Γ : Z.Gam) (E : Z.PX) (e : Stmt) (i : Z.Sm) : Prop := PS X e (upS X.K (Z.wpS sub Γ E i))
noncomputable abbrev LSs (X : Cx) (sub : Nat → Nat → Bool) (Γ : Z.Gam) (E : Z.PX) (e : List Stmt) (i : Z.Sms) : Prop := PSs X e (upS X.K (Z.wpSs sub Γ E i))
theorem rel2 {K : PySem.W.Frag} {ρ : List Addr} {H : Hp} {a b : Z.D} {x y : V} (r1 : RelD K ρ H a x) (r2 : RelD K ρ H b y) : RelDs K ρ H [a, b] [x, y] := by
  simp only [RelDs]; exact ⟨x, _, rfl, r1, y, _, rfl, r2, rfl⟩
theorem le_var {i : Nat} {x : Str} {pos : Pos} (hN : X.N[i]? = some x) (hv : Vis X.env.scope x) (hd : (x == ("__debug__" : Str)) = false) (hcd : (x == ("__classdict__" : Str)) = false) : LE X sub Γ E (.Name x pos) (.var i) := by
  refine PEw (pe_var hN hv hd hcd) ?_
  rintro σ H Q ⟨ρ, h, τ, Q', R, L, w, k⟩
  simp only [Z.wpE] at w
  cases q : τ[i]? with
  | none => rw [q] at w; exact w.elim
  | some o =>
    cases o with
    | none => rw [q] at w; exact w.elim
    | some d =>
      rw [q] at w
      obtain ⟨v, e, r⟩ := L.2 i d q
      exact ⟨v, e, k d h ρ H v .refl R r w⟩
theorem le_lit {e : Expr} {d : Z.D} {v : V} (he : PE X e (tC v)) (r : ∀ ρ H, RelD X.K ρ H d v) : LE X sub Γ E e (.lit d) := by
  refine PEw he ?_
  rintro σ H Q ⟨ρ, h, τ, Q', R, L, w, k⟩
  exact k d h ρ H v .refl R (r ρ H) w
theorem le_bin {a b : Expr} {a' b' : Z.Ex} {op : Operator} {p : Z.Prim} {pos : Pos} (ho : OpR X (binaryOp op) (fun x y => rP X.K sub p [x, y])) (ha : LE X sub Γ E a a') (hb : LE X sub Γ E b b') :
    LE X sub Γ E (.BinOp a op b pos) (.prim p (.cons a' (.cons b' .nil))) := by
  refine PEw (pe_op ho ha hb) ?_
  rintro σ H Q ⟨ρ, h, τ, Q', R, L, w, k⟩
  simp only [Z.wpE, Z.wpEs] at w
  refine ⟨ρ, h, τ, _, R, L, w, fun d1 h1 ρ1 H1 x e1 R1 r1 w1 => ⟨ρ1, h1, τ, _, R1, L.mono e1, w1, fun d2 h2 ρ2 H2 y e2 R2 r2 w2 => ?_⟩⟩
  cases q : Z.prim sub p [d1, d2] h2 with
  | none => rw [q] at w2; exact w2.elim
  | some z =>
    rw [q] at w2
    exact ⟨ρ2, h2, [d1, d2], z.1, z.2, R2, rel2 (RelD.mono e2 _ _ r1) r2, q, fun ρ' H' v e' R' r' => k _ _ ρ' H' v (e1.trans (e2.trans e')) R' r' w2⟩
theorem le_un {a : Expr} {a' : Z.Ex} {op : UnaryOp} {p : Z.Prim} {pos : Pos} (ho : UnR X (unaryOp op) (fun x => rP X.K sub p [x])) (ha : LE X sub Γ E a a') :
    LE X sub Γ E (.UnaryOp op a pos) (.prim p (.cons a' .nil)) := by
  refine PEw (pe_un ho ha) ?_
  rintro σ H Q ⟨ρ, h, τ, Q', R, L, w, k⟩
  simp only [Z.wpE, Z.wpEs] at w
  refine ⟨ρ, h, τ, _, R, L, w, fun d1 h1 ρ1 H1 x e1 R1 r1 w1 => ?_⟩
  cases q : Z.prim sub p [d1] h1 with
  | none => rw [q] at w1; exact w1.elim
  | some z =>
    rw [q] at w1
    exact ⟨ρ1, h1, [d1], z.1, z.2, R1, .one r1, q, fun ρ' H' v e' R' r' => k _ _ ρ' H' v (e1.trans e') R' r' w1⟩
theorem le_cmp {a b : Expr} {a' b' : Z.Ex} {op : CmpOp} {p : Z.Prim} {pos : Pos} (ho : OpR X (compareOp op) (fun x y => rP X.K sub p [x, y])) (ha : LE X sub Γ E a a') (hb : LE X sub Γ E b b') (hm : behindInMarks op b = false) :
    LE X sub Γ E (.Compare a [op] [b] pos) (.prim p (.cons a' (.cons b' .nil))) := by
  refine PEw (pe_cmpR ho ha hb hm) ?_
  rintro σ H Q ⟨ρ, h, τ, Q', R, L, w, k⟩
  simp only [Z.wpE, Z.wpEs] at w
  refine ⟨ρ, h, τ, _, R, L, w, fun d1 h1 ρ1 H1 x e1 R1 r1 w1 => ⟨ρ1, h1, τ, _, R1, L.mono e1, w1, fun d2 h2 ρ2 H2 y e2 R2 r2 w2 => ?_⟩⟩
  cases q : Z.prim sub p [d1, d2] h2 with
  | none => rw [q] at w2; exact w2.elim
  | some z =>
    rw [q] at w2
    exact ⟨ρ2, h2, [d1, d2], z.1, z.2, R2, rel2 (RelD.mono e2 _ _ r1) r2, q, fun ρ' H' v e' R' r' => k _ _ ρ' H' v (e1.trans (e2.trans e')) R' r' w2⟩
theorem le_none {a : Expr} {a' : Z.Ex} {op : CmpOp} {p : Z.Prim} {pos pos' : Pos} {j : Nat} (ho : OpR X (compareOp op) (fun x y H Q => y = .non ∧ rP X.K sub p [x] H Q)) (ha : LE X sub Γ E a a') (hm : behindInMarks op (.Constant .none j pos') = false) :
    LE X sub Γ E (.Compare a [op] [.Constant .none j pos'] pos) (.prim p (.cons a' .nil)) := by
  refine PEw (pe_cmpR ho ha pe_non hm) ?_
  rintro σ H Q ⟨ρ, h, τ, Q', R, L, w, k⟩
  simp only [Z.wpE, Z.wpEs] at w
  refine ⟨ρ, h, τ, _, R, L, w, fun d1 h1 ρ1 H1 x e1 R1 r1 w1 => ?_⟩
  cases q : Z.prim sub p [d1] h1 with
  | none => rw [q] at w1; exact w1.elim
  | some z =>
    rw [q] at w1
    exact ⟨rfl, ρ1, h1, [d1], z.1, z.2, R1, .one r1, q, fun ρ' H' v e' R' r' => k _ _ ρ' H' v (e1.trans e') R' r' w1⟩
theorem le_and {a b : Expr} {rest : List Expr} {a' b' : Z.Ex} {pos : Pos} (ha : LE X sub Γ E a a') (hb : LE X sub Γ E (.BoolOp .And (b :: rest) pos) b') : LE X sub Γ E (.BoolOp .And (a :: b :: rest) pos) (.andV a' b') := by
  refine PEw (pe_and ha hb) ?_
  rintro σ H Q ⟨ρ, h, τ, Q', R, L, w, k⟩
  simp only [Z.wpE] at w
  refine ⟨ρ, h, τ, _, R, L, w, fun d1 h1 ρ1 H1 x e1 R1 r1 w1 => ?_⟩
  cases d1 with
  | bl c =>
    simp only [RelD] at r1
    cases c with
    | true => exact ⟨true, r1, by rw [if_pos rfl]; exact ⟨ρ1, h1, τ, _, R1, L.mono e1, w1, fun d h' ρ' H' v e' => k d h' ρ' H' v (e1.trans e')⟩⟩
    | false => exact ⟨false, r1, by rw [if_neg (by decide)]; exact k _ h1 ρ1 H1 _ e1 R1 (by simp only [RelD]) w1⟩
  | _ => exact w1.elim
theorem le_one {op : BoolOp} {a : Expr} {a' : Z.Ex} {pos : Pos} (ha : LE X sub Γ E a a') : LE X sub Γ E (.BoolOp op [a] pos) a' := pe_one ha
theorem le_ite {c a b : Expr} {c' : Z.Tx} {a' b' : Z.Ex} {pos : Pos} (hc : LT X sub Γ E c c') (ha : LE X sub Γ E a a') (hb : LE X sub Γ E b b') : LE X sub Γ E (.IfExp c a b pos) (.ite c' a' b') := by
  refine PEw (pe_ifExp hc ha hb) ?_
  rintro σ H Q ⟨ρ, h, τ, Q', R, L, w, k⟩
  simp only [Z.wpE] at w
  refine ⟨ρ, h, τ, _, R, L, w, fun c h1 ρ1 H1 e1 R1 w1 => ?_⟩
  cases c with
  | true => rw [if_pos rfl] at w1 ⊢; exact ⟨ρ1, h1, τ, _, R1, L.mono e1, w1, fun d h' ρ' H' v e' => k d h' ρ' H' v (e1.trans e')⟩
  | false => rw [if_neg (by decide)] at w1 ⊢; exact ⟨ρ1, h1, τ, _, R1, L.mono e1, w1, fun d h' ρ' H' v e' => k d h' ρ' H' v (e1.trans e')⟩
theorem le_chain {a b c : Expr} {a' b' c' : Z.Ex} {op op' : CmpOp} {p p' : Z.Prim} {pos : Pos} (ho : OpR X (compareOp op) (fun x y => rP X.K sub p [x, y])) (ho' : OpR X (compareOp op') (fun x y => rP X.K sub p' [x, y]))
    (ha : LE X sub Γ E a a') (hb : LE X sub Γ E b b') (hc : LE X sub Γ E c c') (hm : lastMarks [op, op'] [b, c] = false) :
    LE X sub Γ E (.Compare a [op, op'] [b, c] pos) (.chain p p' a' b' c') := by
  refine PEw (pe_chain ho ho' ha hb hc hm) ?_
  rintro σ H Q ⟨ρ, h, τ, Q', R, L, w, k⟩
  simp only [Z.wpE] at w
  refine ⟨ρ, h, τ, _, R, L, w, fun d1 h1 ρ1 H1 x e1 R1 r1 w1 => ⟨ρ1, h1, τ, _, R1, L.mono e1, w1, fun d2 h2 ρ2 H2 y e2 R2 r2 w2 => ?_⟩⟩
  cases q : Z.prim sub p [d1, d2] h2 with
  | none => rw [q] at w2; exact w2.elim
  | some z =>
    obtain ⟨z, h3⟩ := z
    rw [q] at w2
    refine ⟨ρ2, h2, [d1, d2], z, h3, R2, rel2 (RelD.mono e2 _ _ r1) r2, q, fun ρ3 H3 v e3 R3 r3 => ?_⟩
    cases z with
    | bl c =>
      simp only [RelD] at r3
      refine ⟨c, r3, ?_⟩
      cases c with
      | false => rw [if_neg (by decide)]; exact k _ h3 ρ3 H3 _ (e1.trans (e2.trans e3)) R3 (by simp only [RelD]) w2
      | true =>
        rw [if_pos rfl]
        refine ⟨ρ3, h3, τ, _, R3, L.mono (e1.trans (e2.trans e3)), w2, fun d4 h4 ρ4 H4 y4 e4 R4 r4 w4 => ?_⟩
        cases q' : Z.prim sub p' [d2, d4] h4 with
        | none => rw [q'] at w4; exact w4.elim
        | some z =>
          rw [q'] at w4
          exact ⟨ρ4, h4, [d2, d4], z.1, z.2, R4, rel2 (RelD.mono (e3.trans e4) _ _ r2) r4, q', fun ρ' H' v e' R' r' => k _ _ ρ' H' v (e1.trans (e2.trans (e3.trans (e4.trans e')))) R' r' w4⟩
    | _ => exact w2.elim
theorem la_nil : LA X sub Γ E [] .nil := by
  refine PAw pa_nil ?_
  rintro σ H Q ⟨ρ, h, τ, Q', R, L, w, k⟩
  simp only [Z.wpEs] at w
  exact k [] h ρ H [] .refl R (by simp only [RelDs]) w
theorem la_cons {e : Expr} {es : List Expr} {e' : Z.Ex} {es' : Z.Exs} (he : LE X sub Γ E e e') (hes : LA X sub Γ E es es') (hs : starEach (e :: es) X.env = (false, eval e X.env) :: starEach es X.env) : LA X sub Γ E (e :: es) (.cons e' es') := by
  refine PAw (pa_cons he hes hs) ?_
  rintro σ H Q ⟨ρ, h, τ, Q', R, L, w, k⟩
  simp only [Z.wpEs] at w
  refine ⟨ρ, h, τ, _, R, L, w, fun d1 h1 ρ1 H1 x e1 R1 r1 w1 => ⟨ρ1, h1, τ, _, R1, L.mono e1, w1, fun ds h2 ρ2 H2 xs e2 R2 r2 w2 => ?_⟩⟩
  exact k _ h2 ρ2 H2 _ (e1.trans e2) R2 (by simp only [RelDs]; exact ⟨x, xs, rfl, RelD.mono e2 _ _ r1, r2⟩) w2
theorem limE : Z.lim = sizeLine := by rw [sizeLine_eq]; rfl
theorem pr_mkt {sub : Nat → Nat → Bool} : Z.prim sub .mktup = Z.pMkt := rfl
theorem pr_mkl {sub : Nat → Nat → Bool} : Z.prim sub .mklst = Z.newL := rfl
theorem le_tup {es : List Expr} {es' : Z.Exs} {k : Nat} {pos : Pos} (h : LA X sub Γ E es es') : LE X sub Γ E (.Tuple es k pos) (.prim .mktup es') := by
  refine PEw (pe_tup h) ?_
  rintro σ H Q ⟨ρ, h, τ, Q', R, L, w, k⟩
  simp only [Z.wpE] at w
  refine ⟨ρ, h, τ, _, R, L, w, fun ds h1 ρ1 H1 xs e1 R1 r1 w1 => ?_⟩
  simp only [pr_mkt, Z.pMkt] at w1
  by_cases hl : ds.length ≤ Z.lim
  · rw [if_pos hl] at w1
    refine ⟨by rw [← r1.length, ← limE]; exact hl, fun p hp => ?_⟩
    have e2 : Ext X.K ρ1 H1 ρ1 (upd H1 p (.tup xs)) := Ext.fresh hp
    exact k _ h1 ρ1 _ _ (e1.trans e2) (R1.fresh hp) (by simp only [RelD]; exact ⟨p, xs, rfl, .of upd_same, RelDs.mono e2 _ _ r1⟩) w1
  · rw [if_neg hl] at w1; exact w1.elim
theorem new_list {K : PySem.W.Frag} {ρ : List Addr} {h : Z.AH} {H : Hp} {ds : List Z.D} {vs : List V} {p : Addr} (R : Rep K ρ h H) (r : RelDs K ρ H ds vs) (hp : H p = none) :
    Ext K ρ H (ρ ++ [p]) (upd H p (.lst vs)) ∧ Rep K (ρ ++ [p]) (h ++ [.lst ds]) (upd H p (.lst vs)) ∧ RelD K (ρ ++ [p]) (upd H p (.lst vs)) (.ref h.length) (.ref p) := by
  have e : Ext K ρ H (ρ ++ [p]) (upd H p (.lst vs)) := Ext.alloc hp
  exact ⟨e, R.alloc hp ⟨vs, upd_same, RelDs.mono e _ _ r⟩, by simp only [RelD]; exact ⟨p, rfl, by rw [← R.len, List.getElem?_append_right (Nat.le_refl _)]; simp⟩⟩
theorem le_list {es : List Expr} {es' : Z.Exs} {pos : Pos} (h : LA X sub Γ E es es') : LE X sub Γ E (.List es pos) (.prim .mklst es') := by
  refine PEw (pe_lst h) ?_
  rintro σ H Q ⟨ρ, h, τ, Q', R, L, w, k⟩
  simp only [Z.wpE] at w
  refine ⟨ρ, h, τ, _, R, L, w, fun ds h1 ρ1 H1 xs e1 R1 r1 w1 => ?_⟩
  simp only [pr_mkl, Z.newL] at w1
  by_cases hl : ds.length ≤ Z.lim
  · rw [if_pos hl] at w1
    refine ⟨by rw [← r1.length, ← limE]; exact hl, fun p hp => ?_⟩
    obtain ⟨e2, R2, r2⟩ := new_list R1 r1 hp
    exact k _ _ _ _ _ (e1.trans e2) R2 r2 w1
  · rw [if_neg hl] at w1; exact w1.elim
theorem le_ix {a b : Expr} {a' b' : Z.Ex} {p : Z.Prim} {pos : Pos} (ho : IxR X (fun x y => rP X.K sub p [x, y])) (ha : LE X sub Γ E a a') (hb : LE X sub Γ E b b') (hs : PlainIx b) :
    LE X sub Γ E (.Subscript a b pos) (.prim p (.cons a' (.cons b' .nil))) := by
  refine PEw (pe_ix ho ha hb hs) ?_
  rintro σ H Q ⟨ρ, h, τ, Q', R, L, w, k⟩
  simp only [Z.wpE, Z.wpEs] at w
  refine ⟨ρ, h, τ, _, R, L, w, fun d1 h1 ρ1 H1 x e1 R1 r1 w1 => ⟨ρ1, h1, τ, _, R1, L.mono e1, w1, fun d2 h2 ρ2 H2 y e2 R2 r2 w2 => ?_⟩⟩
  cases q : Z.prim sub p [d1, d2] h2 with
  | none => rw [q] at w2; exact w2.elim
  | some z =>
    rw [q] at w2
    exact ⟨ρ2, h2, [d1, d2], z.1, z.2, R2, rel2 (RelD.mono e2 _ _ r1) r2, q, fun ρ' H' v e' R' r' => k _ _ ρ' H' v (e1.trans (e2.trans e')) R' r' w2⟩
theorem le_callB {x : Str} {id : String} {e : Expr} {es : List Expr} {es' : Z.Exs} {p : Z.Prim} {q pos : Pos} (hc : CallR X (.builtin id) (rP X.K sub p)) (hg : Gl X x) (hm : X.mg x = none) (hv : bootBuiltins x = some (.builtin id))
    (ha : LA X sub Γ E (e :: es) es') (hn : x ≠ "__name__") (hdb : (x == ("__debug__" : Str)) = false) (he : starEach (e :: es) X.env = (false, eval e X.env) :: starEach es X.env) (hpl : (backTo pos (starEach es X.env)).any (·.1) = false) :
    LE X sub Γ E (.Call (.Name x q) (e :: es) [] pos) (.prim p es') := by
  refine PEw (pe_callB hc hg hm hv ha hn hdb he hpl) ?_
  rintro σ H Q ⟨ρ, h, τ, Q', R, L, w, k⟩
  simp only [Z.wpE] at w
  refine ⟨ρ, h, τ, _, R, L, w, fun ds h1 ρ1 H1 xs e1 R1 r1 w1 => ?_⟩
  cases q : Z.prim sub p ds h1 with
  | none => rw [q] at w1; exact w1.elim
  | some z =>
    rw [q] at w1
    exact ⟨ρ1, h1, ds, z.1, z.2, R1, r1, q, fun ρ' H' v e' R' r' => k _ _ ρ' H' v (e1.trans e') R' r' w1⟩
noncomputable def MKn : Z.MK → String
  | .list => "list" | .str => "str" | .dict => "dict" | .int => "int" | .tuple => "tuple"
theorem ty_of {K : PySem.W.Frag} {ρ : List Addr} {h : Z.AH} {H : Hp} {m : Z.MK} {d : Z.D} {v : V} (hm : m ≠ .dict) (hm2 : m ≠ .tuple) (R : Rep K ρ h H) (r : RelD K ρ H d v) (t : Z.tyB h m d = true) : tyV K (MKn m) v H := by
  cases m <;> cases d <;> simp only [Z.tyB] at t <;> try cases t
  · simp only [RelD] at r
    obtain ⟨a, ys, rfl, q, _⟩ := r
    exact .inl ⟨rfl, ys, q.sqL⟩
  · rename_i n
    simp only [RelD] at r
    obtain ⟨a, rfl, q⟩ := r
    cases e : h[n]? with
    | none => rw [e] at t; cases t
    | some o =>
      rw [e] at t
      cases o with
      | lst xs =>
        obtain ⟨b, e1, ys, e2, _⟩ := R.at_ n _ e
        rw [q] at e1; cases e1
        exact .inl ⟨rfl, ys, .of e2⟩
      | _ => cases t
  · simp only [RelD] at r
    obtain ⟨rfl, _⟩ := r
    rfl
  · exact absurd rfl hm
  · simp only [RelD] at r
    subst r
    rfl
  · exact absurd rfl hm2
theorem le_mth {o e : Expr} {es : List Expr} {o' : Z.Ex} {es' : Z.Exs} {m : Z.MK} {p : Z.Prim} {name : Str} {apos cpos : Pos} {id : String} (hmk : m ≠ .dict) (hmt : m ≠ .tuple) (pa : PlainAttrs (MKn m)) (slot : Slot (MKn m) name id) (hty : typeOf (.builtin id) = pure (.type "method_descriptor"))
    (hm : MtR X id (fun x xs => rP X.K sub p (x :: xs))) (ho : LE X sub Γ E o o') (ha : LA X sub Γ E (e :: es) es') (hbase : attributeBase o name X.env (eval o X.env) = eval o X.env)
    (hfew : ((backTo cpos (starEach (e :: es) X.env)).all (fun x => !x.1) && (backToKw cpos (keywordEach [] X.env)).all (fun x => x.1.isSome)
      && decide ((e :: es).length + ([] : List Keyword).length + (if ([] : List Keyword).isEmpty then 0 else 1) < 30)) = true)
    (hline : (apos.endLine == cpos.line) = true) (hs : starEach (e :: es) X.env = (false, eval e X.env) :: starEach es X.env) (hplain : (backTo cpos (starEach es X.env)).any (·.1) = false) :
    LE X sub Γ E (.Call (.Attribute o name apos) (e :: es) [] cpos) (.mth m p o' es') := by
  refine PEw (pe_bm pa slot hty hm ho ha hbase hfew hline hs hplain) ?_
  rintro σ H Q ⟨ρ, h, τ, Q', R, L, w, k⟩
  simp only [Z.wpE] at w
  refine ⟨ρ, h, τ, _, R, L, w, fun d1 h1 ρ1 H1 x e1 R1 r1 w1 => ⟨ty_of hmk hmt R1 r1 w1.1, ρ1, h1, τ, _, R1, L.mono e1, w1.2, fun ds h2 ρ2 H2 xs e2 R2 r2 w2 => ?_⟩⟩
  cases q : Z.prim sub p (d1 :: ds) h2 with
  | none => rw [q] at w2; exact w2.elim
  | some z =>
    rw [q] at w2
    exact ⟨ρ2, h2, d1 :: ds, z.1, z.2, R2, by simp only [RelDs]; exact ⟨x, xs, rfl, RelD.mono e2 _ _ r1, r2⟩, q, fun ρ' H' v e' R' r' => k _ _ ρ' H' v (e1.trans (e2.trans e')) R' r' w2⟩
theorem le_mth0 {o : Expr} {o' : Z.Ex} {m : Z.MK} {p : Z.Prim} {name : Str} {apos cpos : Pos} {id : String} (hmk : m ≠ .dict) (hmt : m ≠ .tuple) (pa : PlainAttrs (MKn m)) (slot : Slot (MKn m) name id) (hty : typeOf (.builtin id) = pure (.type "method_descriptor"))
    (hm : MtR X id (fun x xs => rP X.K sub p (x :: xs))) (ho : LE X sub Γ E o o') (hbase : attributeBase o name X.env (eval o X.env) = eval o X.env) (hline : (apos.endLine == cpos.line) = true) :
    LE X sub Γ E (.Call (.Attribute o name apos) [] [] cpos) (.mth m p o' .nil) := by
  refine PEw (pe_bm0 pa slot hty hm ho hbase hline) ?_
  rintro σ H Q ⟨ρ, h, τ, Q', R, L, w, k⟩
  simp only [Z.wpE, Z.wpEs] at w
  refine ⟨ρ, h, τ, _, R, L, w, fun d1 h1 ρ1 H1 x e1 R1 r1 w1 => ⟨ty_of hmk hmt R1 r1 w1.1, ?_⟩⟩
  obtain ⟨_, w2⟩ := w1
  cases q : Z.prim sub p [d1] h1 with
  | none => rw [q] at w2; exact w2.elim
  | some z =>
    rw [q] at w2
    exact ⟨ρ1, h1, [d1], z.1, z.2, R1, .one r1, q, fun ρ' H' v e' R' r' => k _ _ ρ' H' v (e1.trans e') R' r' w2⟩
theorem tru_of {K : PySem.W.Frag} {ρ : List Addr} {h : Z.AH} {H : Hp} {d : Z.D} {v : V} {c : Bool} (R : Rep K ρ h H) (r : RelD K ρ H d v) (t : Z.truthy h d = some c) : TruV K v H c := by
  cases d with
  | non => simp only [RelD] at r; subst r; simp only [Z.truthy] at t; cases t; rfl
  | bl b => simp only [RelD] at r; subst r; simp only [Z.truthy] at t; cases t; rfl
  | int i => simp only [RelD] at r; subst r; simp only [Z.truthy] at t; cases t; rfl
  | str s =>
    simp only [RelD] at r
    obtain ⟨rfl, hl⟩ := r
    simp only [Z.truthy] at t
    cases t
    refine ⟨by rw [← limE]; exact hl, ?_⟩
    show (!s.isEmpty) = (((⟨s.toArray⟩ : Str).length : Int) != 0)
    cases s with
    | nil => rfl
    | cons a b =>
      show true = _
      symm
      rw [bne_iff_ne]
      show ((a :: b).toArray.size : Int) ≠ 0
      simp
      omega
  | tup xs =>
    simp only [RelD] at r
    obtain ⟨a, ys, rfl, q, rs⟩ := r
    simp only [Z.truthy] at t
    cases t
    refine .inr (.inl ⟨ys, q, ?_⟩)
    have := rs.length
    cases xs <;> cases ys <;> simp at this ⊢
  | rol xs =>
    simp only [RelD] at r
    obtain ⟨a, ys, rfl, q, rs⟩ := r
    simp only [Z.truthy] at t
    cases t
    refine .inl ⟨ys, q.sqL, ?_⟩
    have := rs.length
    cases xs <;> cases ys <;> simp at this ⊢
  | ref n =>
    simp only [RelD] at r
    obtain ⟨a, rfl, q⟩ := r
    simp only [Z.truthy] at t
    cases e : h[n]? with
    | none => rw [e] at t; cases t
    | some o =>
      rw [e] at t
      obtain ⟨b, e1, ro⟩ := R.at_ n _ e
      rw [q] at e1; cases e1
      cases o with
      | lst xs =>
        obtain ⟨ys, e2, rs⟩ := ro
        cases t
        refine .inl ⟨ys, .of e2, ?_⟩
        have := rs.length
        cases xs <;> cases ys <;> simp at this ⊢
      | dct kvs =>
        obtain ⟨ys, e2, ek, rs, _⟩ := ro
        cases t
        refine .inr (.inr ⟨ys, e2, ?_⟩)
        have := rs.length
        rw [List.length_map, List.length_map] at this
        cases kvs <;> cases ys <;> simp at this ⊢
      | obj _ _ => cases t
      | exc _ => cases t
theorem lt_tru {a : Expr} {a' : Z.Ex} (ha : LE X sub Γ E a a') (he : ∀ whole, isTrue a X.env whole = (do let v ← whole; standAt a.pos; holding [v] (truthy v))) : LT X sub Γ E a (.tru a') := by
  refine PTw (pt_truth ha he) ?_
  rintro σ H Q ⟨ρ, h, τ, Q', R, L, w, k⟩
  simp only [Z.wpT] at w
  refine ⟨ρ, h, τ, _, R, L, w, fun d1 h1 ρ1 H1 x e1 R1 r1 w1 => ?_⟩
  cases q : Z.truthy h1 d1 with
  | none => rw [q] at w1; exact w1.elim
  | some c =>
    rw [q] at w1
    exact ⟨c, tru_of R1 r1 q, k c h1 ρ1 H1 e1 R1 w1⟩
theorem lt_cmp {a b : Expr} {a' b' : Z.Ex} {op : CmpOp} {p : Z.Prim} {pos : Pos} (hp : ∀ ds h d h', Z.prim sub p ds h = some (d, h') → ∃ c, d = .bl c) (ho : OpR X (compareOp op) (fun x y => rP X.K sub p [x, y])) (ha : LE X sub Γ E a a') (hb : LE X sub Γ E b b') (hm : behindInMarks op b = false) :
    LT X sub Γ E (.Compare a [op] [b] pos) (.tru (.prim p (.cons a' (.cons b' .nil)))) := by
  refine PTw (pt_cmpR ho ha hb hm) ?_
  rintro σ H Q ⟨ρ, h, τ, Q', R, L, w, k⟩
  simp only [Z.wpT, Z.wpE, Z.wpEs] at w
  refine ⟨ρ, h, τ, _, R, L, w, fun d1 h1 ρ1 H1 x e1 R1 r1 w1 => ⟨ρ1, h1, τ, _, R1, L.mono e1, w1, fun d2 h2 ρ2 H2 y e2 R2 r2 w2 => ?_⟩⟩
  cases q : Z.prim sub p [d1, d2] h2 with
  | none => rw [q] at w2; exact w2.elim
  | some z =>
    obtain ⟨z, h3⟩ := z
    obtain ⟨c, rfl⟩ := hp _ _ _ _ q
    rw [q] at w2
    refine ⟨ρ2, h2, [d1, d2], .bl c, h3, R2, rel2 (RelD.mono e2 _ _ r1) r2, q, fun ρ' H' v e' R' r' => ?_⟩
    simp only [RelD] at r'
    exact ⟨c, r', k _ h3 ρ' H' (e1.trans (e2.trans e')) R' w2⟩
theorem lt_none {a : Expr} {a' : Z.Ex} {op : CmpOp} {p : Z.Prim} {pos pos' : Pos} {j : Nat} (hp : ∀ ds h d h', Z.prim sub p ds h = some (d, h') → ∃ c, d = .bl c) (ho : OpR X (compareOp op) (fun x y H Q => y = .non ∧ rP X.K sub p [x] H Q)) (ha : LE X sub Γ E a a') (hm : behindInMarks op (.Constant .none j pos') = false) :
    LT X sub Γ E (.Compare a [op] [.Constant .none j pos'] pos) (.tru (.prim p (.cons a' .nil))) := by
  refine PTw (pt_cmpR ho ha pe_non hm) ?_
  rintro σ H Q ⟨ρ, h, τ, Q', R, L, w, k⟩
  simp only [Z.wpT, Z.wpE, Z.wpEs] at w
  refine ⟨ρ, h, τ, _, R, L, w, fun d1 h1 ρ1 H1 x e1 R1 r1 w1 => ?_⟩
  cases q : Z.prim sub p [d1] h1 with
  | none => rw [q] at w1; exact w1.elim
  | some z =>
    obtain ⟨z, h3⟩ := z
    obtain ⟨c, rfl⟩ := hp _ _ _ _ q
    rw [q] at w1
    refine ⟨rfl, ρ1, h1, [d1], .bl c, h3, R1, .one r1, q, fun ρ' H' v e' R' r' => ?_⟩
    simp only [RelD] at r'
    exact ⟨c, r', k _ h3 ρ' H' (e1.trans e') R' w1⟩
theorem lt_not {a : Expr} {a' : Z.Tx} {pos : Pos} (ha : LT X sub Γ E a a') : LT X sub Γ E (.UnaryOp .Not a pos) (.not a') := by
  refine PTw (pt_not ha) ?_
  rintro σ H Q ⟨ρ, h, τ, Q', R, L, w, k⟩
  simp only [Z.wpT] at w
  exact ⟨ρ, h, τ, _, R, L, w, fun c h1 ρ1 H1 e1 R1 w1 => k _ h1 ρ1 H1 e1 R1 w1⟩
noncomputable abbrev LW (X : Cx) (sub : Nat → Nat → Bool) (Γ : Z.Gam) (E : Z.PX) (e : Expr) (i : Z.Tx) : Prop := PW X e (upT X.K (Z.wpT sub Γ E i))
theorem PWw {e : Expr} {t t' : TT} (h : PW X e t) (w : ∀ σ H Q, t' σ H Q → t σ H Q) : PW X e t' := fun wh pins s σ H Q I q => h wh pins s σ H Q I (w _ _ _ q)
theorem lw_and1 {a : Expr} {a' : Z.Tx} {pos : Pos} (ha : LT X sub Γ E a a') : LW X sub Γ E (.BoolOp .And [a] pos) a' := pw_and1 ha
theorem lw_or1 {a : Expr} {a' : Z.Tx} {pos : Pos} (ha : LT X sub Γ E a a') : LW X sub Γ E (.BoolOp .Or [a] pos) a' := pw_or1 ha
theorem lw_and {a b : Expr} {rest : List Expr} {a' b' : Z.Tx} {pos : Pos} (ha : LT X sub Γ E a a') (hb : LW X sub Γ E (.BoolOp .And (b :: rest) pos) b') : LW X sub Γ E (.BoolOp .And (a :: b :: rest) pos) (.and a' b') := by
  refine PWw (pw_and ha hb) ?_
  rintro σ H Q ⟨ρ, h, τ, Q', R, L, w, k⟩
  simp only [Z.wpT] at w
  refine ⟨ρ, h, τ, _, R, L, w, fun c h1 ρ1 H1 e1 R1 w1 => ?_⟩
  cases c with
  | true => rw [if_pos rfl] at w1 ⊢; exact ⟨ρ1, h1, τ, _, R1, L.mono e1, w1, fun d h' ρ' H' e' => k d h' ρ' H' (e1.trans e')⟩
  | false => rw [if_neg (by decide)] at w1 ⊢; exact k _ h1 ρ1 H1 e1 R1 w1
theorem lw_or {a b : Expr} {rest : List Expr} {a' b' : Z.Tx} {pos : Pos} (ha : LT X sub Γ E a a') (hb : LW X sub Γ E (.BoolOp .Or (b :: rest) pos) b') : LW X sub Γ E (.BoolOp .Or (a :: b :: rest) pos) (.or a' b') := by
  refine PWw (pw_or ha hb) ?_
  rintro σ H Q ⟨ρ, h, τ, Q', R, L, w, k⟩
  simp only [Z.wpT] at w
  refine ⟨ρ, h, τ, _, R, L, w, fun c h1 ρ1 H1 e1 R1 w1 => ?_⟩
  cases c with
  | true => rw [if_pos rfl] at w1 ⊢; exact k _ h1 ρ1 H1 e1 R1 w1
  | false => rw [if_neg (by decide)] at w1 ⊢; exact ⟨ρ1, h1, τ, _, R1, L.mono e1, w1, fun d h' ρ' H' e' => k d h' ρ' H' (e1.trans e')⟩
end
end ZS
set_option linter.all false
set_option maxRecDepth 100000
set_option maxHeartbeats 4000000
namespace ZS
open PySem PySem.Spec PyProof.Rows L2
variable [R0]
section
variable {X : Cx} {sub : Nat → Nat → Bool} {Γ : Z.Gam} {E : Z.PX}
theorem lss_nil : LSs X sub Γ E [] .nil := by
  refine PSsw pss_nil ?_
  rintro D σ H ⟨ρ, h, τ, N, R, L, w, k⟩
  simp only [Z.wpSs] at w
  exact k.nx τ h ρ H σ .refl R L w
theorem lss_cons {s : Stmt} {ss : List Stmt} {s' : Z.Sm} {ss' : Z.Sms} (h1 : LS X sub Γ E s s') (h2 : LSs X sub Γ E ss ss') : LSs X sub Γ E (s :: ss) (.cons s' ss') := by
  refine PSsw (pss_cons h1 h2) ?_
  rintro D σ H ⟨ρ, h, τ, N, R, L, w, k⟩
  simp only [Z.wpSs] at w
  refine ⟨ρ, h, τ, _, R, L, w, ⟨fun τ1 h1 ρ1 H1 σ1 e1 R1 L1 w1 => ⟨ρ1, h1, τ1, N, R1, L1, w1, k.mono e1⟩, k.rt, k.bk, k.ct⟩⟩
theorem ls_expr {e : Expr} {e' : Z.Ex} {pos : Pos} (he : LE X sub Γ E e e') (hs : swapsWith e none pos.line X.env = pure false) : LS X sub Γ E (.Expr e pos) (.expr e') := by
  refine PSw (ps_expr he hs) ?_
  rintro D σ H ⟨ρ, h, τ, N, R, L, w, k⟩
  simp only [Z.wpS] at w
  exact ⟨ρ, h, τ, _, R, L, w, fun d h1 ρ1 H1 v e1 R1 r1 w1 => k.nx τ h1 ρ1 H1 σ e1 R1 (L.mono e1) w1⟩
theorem ls_ret {e : Expr} {e' : Z.Ex} {pos : Pos} (he : LE X sub Γ E e e') : LS X sub Γ E (.Return (some e) pos) (.ret e') := by
  refine PSw (ps_ret he) ?_
  rintro D σ H ⟨ρ, h, τ, N, R, L, w, k⟩
  simp only [Z.wpS] at w
  exact ⟨ρ, h, τ, _, R, L, w, fun d h1 ρ1 H1 v e1 R1 r1 w1 => k.rt d h1 ρ1 H1 v e1 R1 r1 w1⟩
theorem ls_asg {i : Nat} {x : Str} {e : Expr} {e' : Z.Ex} {pos pos' : Pos} (hN : X.N.Nodup) (hi : X.N[i]? = some x) (hx : Loc X.env.scope x) (he : LE X sub Γ E e e') (hs : swapsWith e (some (.Name x pos')) pos.line X.env = pure false)
    (hf : X.fn x = true ∨ X.env.scope.names.lookup x = some .local) : LS X sub Γ E (.Assign [.Name x pos'] e pos) (.asg i e') := by
  refine PSw (ps_set hN hi hx he hs hf) ?_
  rintro D σ H ⟨ρ, h, τ, N, R, L, w, k⟩
  simp only [Z.wpS] at w
  exact ⟨ρ, h, τ, _, R, L, w, fun d h1 ρ1 H1 v e1 R1 r1 w1 => k.nx _ h1 ρ1 H1 _ e1 R1 ((L.mono e1).set r1) w1⟩
theorem ls_par {i j : Nat} {x y : Str} {a b : Expr} {a' b' : Z.Ex} {px py pt pos : Pos} {kt k2 : Nat} {pt2 : Pos} (hc : X.calm = true) (hN : X.N.Nodup) (hi : X.N[i]? = some x) (hj : X.N[j]? = some y) (hij : i ≠ j)
    (hx : X.env.scope.names.lookup x = some .local) (hy : X.env.scope.names.lookup y = some .local) (ha : LA X sub Γ E [a, b] (.cons a' (.cons b' .nil)))
    (hw : swappedStores [.Tuple [.Name x px, .Name y py] kt pt] (.Tuple [a, b] k2 pt2) X.env = pure (some [x, y]))
    (hs : swapsWithSole [.Tuple [.Name x px, .Name y py] kt pt] (.Tuple [a, b] k2 pt2) pos.line X.env = pure false) :
    LS X sub Γ E (.Assign [.Tuple [.Name x px, .Name y py] kt pt] (.Tuple [a, b] k2 pt2) pos) (.unp [i, j] (.prim .mktup (.cons a' (.cons b' .nil)))) := by
  refine PSw (ps_par hc hN hi hj hij hx hy ha hw hs) ?_
  rintro D σ H ⟨ρ, h, τ, N, R, L, w, k⟩
  simp only [Z.wpS, Z.wpE] at w
  refine ⟨ρ, h, τ, _, R, L, w, fun ds h1 ρ1 H1 vs e1 R1 r1 w1 => ?_⟩
  cases q : Z.prim sub .mktup ds h1 with
  | none => rw [q] at w1; exact w1.elim
  | some z =>
    rw [q] at w1
    simp only [pr_mkt, Z.pMkt] at q
    split at q
    · cases q
      cases hb : Z.bindT [i, j] (.tup ds) τ with
      | none => simp only [hb] at w1
      | some τ' =>
        simp only [hb] at w1
        simp only [Z.bindT] at hb
        split at hb
        · rename_i hl
          cases ds with
          | nil => cases hl
          | cons d1 ds =>
            cases ds with
            | nil => cases hl
            | cons d2 ds =>
              cases ds with
              | cons _ _ => simp at hl
              | nil =>
                cases hb
                simp only [RelDs] at r1
                obtain ⟨v1, _, rfl, r1, v2, _, rfl, r2, rfl⟩ := r1
                exact ⟨v1, v2, rfl, k.nx _ h1 ρ1 H1 _ e1 R1 (((L.mono e1).set r1).set r2) w1⟩
        · cases hb
    · cases q
theorem ls_if {c : Expr} {a b : List Stmt} {c' : Z.Tx} {a' b' : Z.Sms} {pos : Pos} (hc : LT X sub Γ E c c') (ha : LSs X sub Γ E a a') (hb : LSs X sub Γ E b b') : LS X sub Γ E (.If c a b pos) (.ife c' a' b') := by
  refine PSw (ps_if hc ha hb) ?_
  rintro D σ H ⟨ρ, h, τ, N, R, L, w, k⟩
  simp only [Z.wpS] at w
  refine ⟨ρ, h, τ, _, R, L, w, fun c h1 ρ1 H1 e1 R1 w1 => ?_⟩
  cases c with
  | true => rw [if_pos rfl] at w1 ⊢; exact ⟨ρ1, h1, τ, N, R1, L.mono e1, w1, k.mono e1⟩
  | false => rw [if_neg (by decide)] at w1 ⊢; exact ⟨ρ1, h1, τ, N, R1, L.mono e1, w1, k.mono e1⟩
theorem ls_while {c : Expr} {body : List Stmt} {c' : Z.Tx} {b' : Z.Sms} {pos : Pos} (hp : PassesOwn (model X.prog X.w) X.A X.env X.xe) (hc : LT X sub Γ E c c') (hb : LSs X sub Γ E body b') : LS X sub Γ E (.While c body [] pos) (.whil c' b') := by
  refine PSw (ps_while hp hc hb) ?_
  rintro D σ H ⟨ρ, h, τ, N, R, L, w, k⟩
  simp only [Z.wpS] at w
  obtain ⟨W, ⟨m, w0⟩, turn⟩ := w
  refine ⟨fun m σ' H' => ∃ ρ' h' τ', Ext X.K ρ H ρ' H' ∧ Rep X.K ρ' h' H' ∧ RelL X.K ρ' H' τ' σ' ∧ W m τ' h', ⟨m, ρ, h, τ, .refl, R, L, w0⟩, ?_⟩
  rintro m σ1 H1 ⟨ρ1, h1, τ1, e1, R1, L1, w1⟩
  refine ⟨ρ1, h1, τ1, _, R1, L1, turn m τ1 h1 w1, fun c h2 ρ2 H2 e2 R2 w2 => ?_⟩
  cases c with
  | false => rw [if_neg (by decide)] at w2 ⊢; exact k.nx τ1 h2 ρ2 H2 σ1 (e1.trans e2) R2 (L1.mono e2) w2
  | true =>
    rw [if_pos rfl] at w2 ⊢
    obtain ⟨Nn, hN, w2⟩ := w2
    refine ⟨fun σ' H' => ∃ m', m' < m ∧ ∃ ρ' h' τ', Ext X.K ρ H ρ' H' ∧ Rep X.K ρ' h' H' ∧ RelL X.K ρ' H' τ' σ' ∧ W m' τ' h', fun σ' H' q => q, ρ2, h2, τ1, _, R2, L1.mono e2, w2, ⟨?_, ?_, ?_, ?_⟩⟩
    · intro τ3 h3 ρ3 H3 σ3 e3 R3 L3 w3
      obtain ⟨m', hm, w3⟩ := hN _ _ w3
      exact ⟨m', hm, ρ3, h3, τ3, e1.trans (e2.trans e3), R3, L3, w3⟩
    · intro d h3 ρ3 H3 v e3 R3 r3 w3
      exact k.rt d h3 ρ3 H3 v (e1.trans (e2.trans e3)) R3 r3 w3
    · intro τ3 h3 ρ3 H3 σ3 e3 R3 L3 w3
      exact k.nx τ3 h3 ρ3 H3 σ3 (e1.trans (e2.trans e3)) R3 L3 w3
    · intro τ3 h3 ρ3 H3 σ3 e3 R3 L3 w3
      obtain ⟨m', hm, w3⟩ := hN _ _ w3
      exact ⟨m', hm, ρ3, h3, τ3, e1.trans (e2.trans e3), R3, L3, w3⟩
noncomputable def ItOk (K : PySem.W.Frag) (ρ0 : List Addr) (H0 : Hp) (J : Z.It) (J' : L2.It) : Prop := ∀ (i : Nat) (ρ : List Addr) (h : Z.AH) (H : Hp), Ext K ρ0 H0 ρ H → Rep K ρ h H →
  match J i h with
  | some (some d) => J'.go i H ∧ ∀ x H', J'.yld i H x H' → Ext K ρ H ρ H' ∧ Rep K ρ h H' ∧ RelD K ρ H' d x
  | some none => J'.stop i H
  | none => True
theorem it_same {K : PySem.W.Frag} {ρ : List Addr} {h : Z.AH} {H H' : Hp} {d : Z.D} {x : V} (R : Rep K ρ h H) (e : H' = H) (r : RelD K ρ H d x) : Ext K ρ H ρ H' ∧ Rep K ρ h H' ∧ RelD K ρ H' d x := by
  subst e; exact ⟨.refl, R, r⟩
noncomputable def upI (K : PySem.W.Frag) (kd : Z.IK) (w : Z.Lo → Z.AH → (List Z.D → Z.AH → Prop) → Prop) : TI := fun σ H R => ∃ ρ h τ Q', Rep K ρ h H ∧ RelL K ρ H τ σ ∧ w τ h Q' ∧
  ∀ ds h' ρ' H' vs, Ext K ρ H ρ' H' → Rep K ρ' h' H' → RelDs K ρ' H' ds vs → Q' ds h' → ∃ J, Z.iterOf kd ds h' = some J ∧ ∀ J', ItOk K ρ' H' J J' → R J' H'
noncomputable abbrev LI (X : Cx) (sub : Nat → Nat → Bool) (Γ : Z.Gam) (E : Z.PX) (tg iter : Expr) (kd : Z.IK) (es : Z.Exs) : Prop := PI X tg iter (upI X.K kd (Z.wpEs sub Γ E es))
theorem PIw {tg iter : Expr} {t t' : TI} (h : PI X tg iter t) (w : ∀ σ H R, t' σ H R → t σ H R) : PI X tg iter t' := fun pins s σ H R I q => h pins s σ H R I (w _ _ _ q)
theorem pi_seq {tg l : Expr} {tl : TE} (hl : PE X l tl) : PI X tg l (fun σ H R => tl σ H fun x H1 => ∃ a, x = .ref a ∧ (((∃ xs, SqL X.K H1 a xs) ∧ R (Itl X.K a) H1) ∨ ((∃ xs, SqT X.K H1 a xs) ∧ R (Itt X.K a) H1))) := by
  intro pins s σ H R I h
  refine thn (hl pins s σ H _ I h) fun v s1 ⟨x, H1, I1, r1, q1⟩ => ?_
  obtain ⟨a, e, ⟨⟨xs, hq⟩, q⟩ | ⟨⟨xs, hq⟩, q⟩⟩ := q1
  · subst e
    cases r1
    obtain ⟨its, rv, p, hz⟩ := I1.list hq
    refine wpAny_pyIter_list p.isList ?_
    refine ⟨s1.heap.objs.size, [s1.heap.objs.size], _, _, H1, rfl, I1.kept (t' := s1.toks) fun b o e => Heap.get?_push_of_some _ e, turn_list a _, ⟨_, Heap.get?_push_size _ rfl, rfl, rfl⟩, fun b hb => ?_, q⟩
    have e : b = s1.heap.objs.size := by simpa using hb
    subst e
    exact I1.fpOk (Nat.le_refl _) (I1.hok.fresh (Nat.le_refl _))
  · subst e
    cases r1
    obtain ⟨its, rv, p, hz⟩ := I1.tuple hq
    refine wpAny_pyIter_tuple (show s1.heap.IsTuple a its.toArray from p) ?_
    refine ⟨s1.heap.objs.size, [s1.heap.objs.size], _, _, H1, rfl, I1.kept (t' := s1.toks) fun b o e => Heap.get?_push_of_some _ e, turn_tuple a _, ⟨_, Heap.get?_push_size _ rfl, rfl, rfl⟩, fun b hb => ?_, q⟩
    have e : b = s1.heap.objs.size := by simpa using hb
    subst e
    exact I1.fpOk (Nat.le_refl _) (I1.hok.fresh (Nat.le_refl _))
theorem itOk_list {K : PySem.W.Frag} {ρ : List Addr} {H : Hp} {n : Nat} {a : Addr} (hn : ρ[n]? = some a) : ItOk K ρ H (Z.itList n) (Itl K a) := by
  intro i ρ1 h1 H1 e1 R1
  have hn1 := e1.pre _ _ hn
  unfold Z.itList
  cases e : h1[n]? with
  | none => trivial
  | some o =>
    cases o with
    | lst xs =>
      obtain ⟨b, eb, ys, e2, rs⟩ := R1.at_ n _ e
      rw [hn1] at eb; cases eb
      dsimp only
      cases q : xs[i]? with
      | none =>
        refine ⟨ys, .of e2, ?_⟩
        rw [← rs.length]
        exact List.getElem?_eq_none_iff.mp q
      | some d =>
        obtain ⟨y, q1, q2⟩ := rs.get q
        refine ⟨⟨ys, y, .of e2, q1⟩, fun x H' hy => ?_⟩
        obtain ⟨eH, hy⟩ := hy
        have := hy ys (.of e2)
        rw [q1] at this; cases this
        exact it_same R1 eH q2
    | _ => trivial
theorem itOk_xs {K : PySem.W.Frag} {ρ : List Addr} {H : Hp} {a : Addr} {xs : List Z.D} {ys : List V} (q : SqF K H a ys) (r : RelDs K ρ H xs ys) : ItOk K ρ H (Z.itXs xs) (Itl K a) := by
  intro i ρ1 h1 H1 e1 R1
  have q' := (e1.sqF q).sqL
  have r' := RelDs.mono e1 _ _ r
  unfold Z.itXs
  cases e : xs[i]? with
  | none => exact ⟨ys, q', by rw [← r.length]; exact List.getElem?_eq_none_iff.mp e⟩
  | some d =>
    obtain ⟨y, q1, q2⟩ := r'.get e
    refine ⟨⟨ys, y, q', q1⟩, fun x H' hy => ?_⟩
    have := hy.2 ys q'
    rw [q1] at this; cases this
    exact it_same R1 hy.1 q2
theorem itOk_tup {K : PySem.W.Frag} {ρ : List Addr} {H : Hp} {a : Addr} {xs : List Z.D} {ys : List V} (q : SqT K H a ys) (r : RelDs K ρ H xs ys) : ItOk K ρ H (Z.itXs xs) (Itt K a) := by
  intro i ρ1 h1 H1 e1 R1
  have q' := e1.sqT q
  have r' := RelDs.mono e1 _ _ r
  unfold Z.itXs
  cases e : xs[i]? with
  | none => exact ⟨ys, q', by rw [← r.length]; exact List.getElem?_eq_none_iff.mp e⟩
  | some d =>
    obtain ⟨y, q1, q2⟩ := r'.get e
    refine ⟨⟨ys, y, q', q1⟩, fun x H' hy => ?_⟩
    have := hy.2 ys q'
    rw [q1] at this; cases this
    exact it_same R1 hy.1 q2
theorem itOk_rng {K : PySem.W.Frag} {ρ : List Addr} {H : Hp} {lo : Int} {n : Nat} : ItOk K ρ H (Z.itRng lo n) (Itr lo n) := by
  intro i ρ1 h1 H1 e1 R1
  unfold Z.itRng
  by_cases hi : i < n
  · rw [if_pos hi]
    refine ⟨hi, fun x H' hy => it_same R1 hy.1 ?_⟩
    simp only [RelD]
    exact hy.2
  · rw [if_neg hi]
    exact Nat.le_of_not_lt hi
theorem li_val {tg l : Expr} {e' : Z.Ex} (hl : LE X sub Γ E l e') : LI X sub Γ E tg l .val (.cons e' .nil) := by
  refine PIw (pi_seq hl) ?_
  rintro σ H Rr ⟨ρ, h, τ, Q', R, L, w, k⟩
  simp only [Z.wpEs] at w
  refine ⟨ρ, h, τ, _, R, L, w, fun d h1 ρ1 H1 x e1 R1 r1 w1 => ?_⟩
  obtain ⟨J, eJ, hk⟩ := k [d] h1 ρ1 H1 [x] e1 R1 (.one r1) w1
  cases d with
  | str s => cases eJ
  | tup xs =>
    cases eJ
    simp only [RelD] at r1
    obtain ⟨a, ys, rfl, q, rs⟩ := r1
    exact ⟨a, rfl, .inr ⟨⟨ys, q⟩, hk _ (itOk_tup q rs)⟩⟩
  | rol xs =>
    cases eJ
    simp only [RelD] at r1
    obtain ⟨a, ys, rfl, q, rs⟩ := r1
    exact ⟨a, rfl, .inl ⟨⟨ys, q.sqL⟩, hk _ (itOk_xs q rs)⟩⟩
  | ref n =>
    simp only [RelD] at r1
    obtain ⟨a, rfl, q⟩ := r1
    simp only [Z.iterOf, Z.ioV, Z.ioR, Z.ioE, Z.ioZ, Z.ioB] at eJ
    cases e : h1[n]? with
    | none => rw [e] at eJ; cases eJ
    | some o =>
      rw [e] at eJ
      cases o with
      | lst xs =>
        cases eJ
        obtain ⟨b, eb, ys, e2, rs⟩ := R1.at_ n _ e
        rw [q] at eb; cases eb
        exact ⟨a, rfl, .inl ⟨⟨ys, .of e2⟩, hk _ (itOk_list q)⟩⟩
      | _ => cases eJ
  | non => cases eJ
  | bl _ => cases eJ
  | int _ => cases eJ
theorem okR_of {i : Int} (h : Z.okR i = true) : -(2 ^ 62) ≤ i ∧ i < 2 ^ 62 := by have := Z.okR_iff.mp h; omega
theorem li_rng1 {tg a : Expr} {a' : Z.Ex} {p pos : Pos} (hg : Gl X "range") (hm : X.mg "range" = none) (ha : LA X sub Γ E [a] (.cons a' .nil)) (hs : starEach [a] X.env = [(false, eval a X.env)]) : LI X sub Γ E tg (.Call (.Name "range" p) [a] [] pos) .rng (.cons a' .nil) := by
  refine PIw (pi_range1 hg hm ha hs) ?_
  rintro σ H Rr ⟨ρ, h, τ, Q', R, L, w, k⟩
  refine ⟨ρ, h, τ, fun ds h1 => match ds with | [d] => Q' [d] h1 | _ => False, R, L, (by simpa only [Z.wpEs] using w), fun ds h1 ρ1 H1 vs e1 R1 r1 w1 => ?_⟩
  match ds, w1, r1 with
  | [d], w1, r1 =>
    obtain ⟨J, eJ, hk⟩ := k [d] h1 ρ1 H1 vs e1 R1 r1 w1
    simp only [RelDs] at r1
    obtain ⟨v, _, rfl, r1, rfl⟩ := r1
    cases d with
    | int i =>
      simp only [Z.iterOf, Z.ioV, Z.ioR, Z.ioE, Z.ioZ, Z.ioB] at eJ
      split at eJ
      · rename_i hi
        cases eJ
        simp only [RelD] at r1
        subst r1
        exact ⟨i, rfl, (okR_of hi).1, (okR_of hi).2, hk _ itOk_rng⟩
      · cases eJ
    | _ => simp only [Z.iterOf, Z.ioV, Z.ioR, Z.ioE, Z.ioZ, Z.ioB] at eJ; cases eJ
  | [], w1, _ => exact w1.elim
  | _ :: _ :: _, w1, _ => exact w1.elim
theorem ls_for {tg iter : Expr} {i : Nat} {x : Str} {tpos : Pos} {kd : Z.IK} {src : Z.Exs} {body : List Stmt} {b' : Z.Sms} {pos : Pos} (hp : PassesOwn (model X.prog X.w) X.A X.env X.xe) (hc : X.calm = true)
    (hN : X.N.Nodup) (hi : X.N[i]? = some x) (hx : Loc X.env.scope x) (hf : X.fn x = true ∨ X.env.scope.names.lookup x = some .local)
    (hit : LI X sub Γ E (.Name x tpos) iter kd src) (hb : LSs X sub Γ E body b') (hs : ∀ x, foldedSetIterable iter X.env x = pure x) : LS X sub Γ E (.For (.Name x tpos) iter body [] pos) (.forr [i] kd src b') := by
  refine PSw (ps_for hp hc hit (pg_name hN hi hx hf) hb hs) ?_
  rintro D σ H ⟨ρ, h, τ, N, R, L, w, k⟩
  simp only [Z.wpS] at w
  refine ⟨ρ, h, τ, _, R, L, w, fun ds h1 ρ1 H1 vs e1 R1 r1 w1 => ?_⟩
  cases eJ : Z.iterOf kd ds h1 with
  | none => rw [eJ] at w1; exact w1.elim
  | some J =>
    rw [eJ] at w1
    refine ⟨J, rfl, fun J' hJ => ?_⟩
    obtain ⟨W, ⟨m, w0⟩, turn⟩ := w1
    refine ⟨fun i m σ' H' => ∃ ρ' h' τ', Ext X.K ρ1 H1 ρ' H' ∧ Rep X.K ρ' h' H' ∧ RelL X.K ρ' H' τ' σ' ∧ W i m τ' h', ⟨m, ρ1, h1, τ, .refl, R1, L.mono e1, w0⟩, ?_⟩
    rintro n m σ2 H2 ⟨ρ2, h2, τ2, e2, R2, L2', w2⟩
    have t := turn n m τ2 h2 w2
    have j := hJ n ρ2 h2 H2 e2 R2
    cases ev : J n h2 with
    | none => rw [ev] at t; exact t.elim
    | some o =>
      rw [ev] at t j
      cases o with
      | none => exact .inl ⟨j, k.nx τ2 h2 ρ2 H2 σ2 (e1.trans e2) R2 L2' t⟩
      | some d =>
        obtain ⟨go, yl⟩ := j
        have hbd : Z.bindT [i] d τ2 = some (τ2.set i (some d)) := by cases d <;> rfl
        simp only [hbd] at t
        obtain ⟨Nn, hNn, t⟩ := t
        refine .inr ⟨go, fun σ' H' => ∃ m', m' < m ∧ ∃ ρ' h' τ', Ext X.K ρ1 H1 ρ' H' ∧ Rep X.K ρ' h' H' ∧ RelL X.K ρ' H' τ' σ' ∧ W (n + 1) m' τ' h', fun σ' H' q => q, fun v H' hy => ?_⟩
        obtain ⟨eX, R2, rv⟩ := yl v H' hy
        have e2 := e2.trans eX
        have L2' := L2'.mono eX
        refine ⟨ρ2, h2, τ2.set i (some d), _, R2, L2'.set rv, t, ⟨?_, ?_, ?_, ?_⟩⟩
        · intro τ3 h3 ρ3 H3 σ3 e3 R3 L3 w3
          obtain ⟨m', hm, w3⟩ := hNn _ _ w3
          exact ⟨m', hm, ρ3, h3, τ3, e2.trans e3, R3, L3, w3⟩
        · intro d h3 ρ3 H3 v e3 R3 r3 w3
          exact k.rt d h3 ρ3 H3 v (e1.trans (e2.trans e3)) R3 r3 w3
        · intro τ3 h3 ρ3 H3 σ3 e3 R3 L3 w3
          exact k.nx τ3 h3 ρ3 H3 σ3 (e1.trans (e2.trans e3)) R3 L3 w3
        · intro τ3 h3 ρ3 H3 σ3 e3 R3 L3 w3
          obtain ⟨m', hm, w3⟩ := hNn _ _ w3
          exact ⟨m', hm, ρ3, h3, τ3, e2.trans e3, R3, L3, w3⟩
end
end ZS
set_option linter.all false
set_option maxRecDepth 100000
set_option maxHeartbeats 4000000
namespace ZS
open PySem PySem.Spec PyProof.Rows L2
variable [R0]
section
variable {X : Cx} {pins : List (Addr × Obj)} {σ : L2.St} {H : Hp} {s : Shared} {ρ : List Addr}
theorem str_beqA (a b : List Nat) : ((⟨a.toArray⟩ : Str) == ⟨b.toArray⟩) = (a == b) := by
  by_cases e : a = b
  · subst e; simp
  · have : ¬ ((⟨a.toArray⟩ : Str) = ⟨b.toArray⟩) := fun q => e (by injection q with q; exact (List.toArray_inj q))
    rw [beq_eq_false_iff_ne.mpr this, beq_eq_false_iff_ne.mpr e]
theorem eq_self_same (I : Inv X pins σ H s) : ∀ (n : Nat) (d d' : Z.D) (v : V) (b : Bool), RelD X.K ρ H d v → RelD X.K ρ H d' v → Z.eqN n d d' = some b → b = true := by
  intro n
  induction n with
  | zero =>
    intro d d' v b r r' e
    cases d <;> cases d' <;> simp only [Z.eqN, RelD] at r r' e <;> first
      | (cases e; done)
      | (cases e; rfl)
      | (cases e; subst r; cases r'; simp; done)
      | (cases e; obtain ⟨rfl, _⟩ := r; obtain ⟨r', _⟩ := r'; cases r'; simp; done)
      | (cases e; subst r; obtain ⟨r', _⟩ := r'; cases r'; done)
      | (cases e; obtain ⟨rfl, _⟩ := r; cases r'; done)
  | succ n ih =>
    have all : ∀ (xs xs' : List Z.D) (ys : List V) (b : Bool), RelDs X.K ρ H xs ys → RelDs X.K ρ H xs' ys → Z.eqZ (Z.eqN n) xs xs' = some b → b = true := by
      intro xs
      induction xs with
      | nil =>
        intro xs' ys b r r' e
        simp only [RelDs] at r
        subst r
        cases xs' with
        | nil => simp only [Z.eqZ] at e; cases e; rfl
        | cons _ _ => simp only [RelDs] at r'; obtain ⟨_, _, r', _⟩ := r'; cases r'
      | cons x xs ihx =>
        intro xs' ys b r r' e
        simp only [RelDs] at r
        obtain ⟨y, t, rfl, q, r⟩ := r
        cases xs' with
        | nil => simp only [RelDs] at r'; cases r'
        | cons x' xs' =>
          simp only [RelDs] at r'
          obtain ⟨y', t', e', q', r'⟩ := r'
          cases e'
          simp only [Z.eqZ] at e
          split at e
          · rename_i a c ea ec
            cases e
            rw [ih _ _ _ _ q q' ea, ihx _ _ _ r r' ec]; rfl
          · cases e
    intro d d' v b r r' e
    cases d <;> cases d' <;> simp only [Z.eqN, RelD] at r r' e <;> first
      | (cases e; done)
      | (cases e; rfl)
      | (cases e; subst r; cases r'; simp; done)
      | (cases e; obtain ⟨rfl, _⟩ := r; obtain ⟨r', _⟩ := r'; cases r'; simp; done)
      | (cases e; subst r; obtain ⟨r', _⟩ := r'; cases r'; done)
      | (cases e; obtain ⟨rfl, _⟩ := r; cases r'; done)
      | (cases e; subst r; obtain ⟨_, _, r', _⟩ := r'; cases r'; done)
      | (cases e; obtain ⟨rfl, _⟩ := r; obtain ⟨_, _, r', _⟩ := r'; cases r'; done)
      | (cases e; obtain ⟨_, _, rfl, _⟩ := r; cases r'; done)
      | (cases e; obtain ⟨_, _, rfl, _⟩ := r; obtain ⟨r', _⟩ := r'; cases r'; done)
      | (obtain ⟨a, ys, rfl, q, r⟩ := r
         obtain ⟨a', ys', ea, q', r'⟩ := r'
         cases ea
         have := I.tuple_inj q q'
         subst this
         exact all _ _ _ _ r r' e)
theorem eqZ_get {f : Z.D → Z.D → Option Bool} : ∀ {xs ys : List Z.D} {b : Bool}, Z.eqZ f xs ys = some b → ∃ e : Nat → Bool, (∀ (j : Nat) x y, xs[j]? = some x → ys[j]? = some y → f x y = some (e j)) ∧ b = ((List.range (min xs.length ys.length)).all e && xs.length == ys.length) := by
  intro xs
  induction xs with
  | nil =>
    intro ys b h
    cases ys with
    | nil => simp only [Z.eqZ] at h; cases h; exact ⟨fun _ => true, fun j x y h => by simp at h, by simp⟩
    | cons _ _ => simp only [Z.eqZ] at h; cases h; exact ⟨fun _ => true, fun j x y h => by simp at h, by simp⟩
  | cons x xs ih =>
    intro ys b h
    cases ys with
    | nil => simp only [Z.eqZ] at h; cases h; exact ⟨fun _ => true, fun j x y h h' => by simp at h', by simp⟩
    | cons y ys =>
      simp only [Z.eqZ] at h
      split at h
      · rename_i a c ea ec
        cases h
        obtain ⟨e, h1, h2⟩ := ih ec
        refine ⟨fun j => match j with | 0 => a | j + 1 => e j, fun j x' y' hx hy => ?_, ?_⟩
        · cases j with
          | zero => simp at hx hy; subst hx hy; exact ea
          | succ j => exact h1 j x' y' (by simpa using hx) (by simpa using hy)
        · rw [h2, List.length_cons, List.length_cons, Nat.succ_min_succ, List.range_succ_eq_map, List.all_cons, List.all_map, Bool.and_assoc]
          have hl : (xs.length == ys.length) = (xs.length + 1 == ys.length + 1) := by
            by_cases hl : xs.length = ys.length <;> simp [hl]
          rw [hl]
          rfl
      · cases h
theorem items_at {A : Around} {xs xs' : List Z.D} {ys ys' : List V} {its its' : List Value} {f : Z.D → Z.D → Option Bool} {e : Nat → Bool} (r : RelDs X.K ρ H xs ys) (r' : RelDs X.K ρ H xs' ys') (v : Vals ys its) (v' : Vals ys' its')
    (he : ∀ (j : Nat) x y, xs[j]? = some x → xs'[j]? = some y → f x y = some (e j))
    (hf : ∀ x x' y y' u u' b, RelD X.K ρ H x y → RelD X.K ρ H x' y' → RelV y u → RelV y' u' → f x x' = some b → SeqAt.EqAt A s u u' b) :
    ∀ j (h1 : j < its.toArray.size) (h2 : j < its'.toArray.size), SeqAt.EqAt A s its.toArray[j] its'.toArray[j] (e j) := by
  intro j h1 h2
  have l1 : j < xs.length := by rw [r.length, v.length]; simpa using h1
  have l2 : j < xs'.length := by rw [r'.length, v'.length]; simpa using h2
  obtain ⟨y, ey, ry⟩ := r.get (i := j) (x := xs[j]) (by simp [l1])
  obtain ⟨y', ey', ry'⟩ := r'.get (i := j) (x := xs'[j]) (by simp [l2])
  obtain ⟨u, eu, ru⟩ := v.get ey
  obtain ⟨u', eu', ru'⟩ := v'.get ey'
  have a1 : its.toArray[j] = u := by
    have : its[j]? = some its[j] := by simp
    rw [this] at eu; cases eu; simp
  have a2 : its'.toArray[j] = u' := by
    have : its'[j]? = some its'[j] := by simp
    rw [this] at eu'; cases eu'; simp
  rw [a1, a2]
  exact hf _ _ _ _ _ _ _ ry ry' ru ru' (he j _ _ (by simp [l1]) (by simp [l2]))
theorem rcAt_D (I : Inv X pins σ H s) : ∀ (n : Nat) (A : Around) (d d' : Z.D) (v v' : V) (u u' : Value) (b : Bool), A.units + n < cLine → RelD X.K ρ H d v → RelD X.K ρ H d' v' → RelV v u → RelV v' u' → Z.eqN n d d' = some b →
    SeqAt.RcAt A s u u' b ∧ SeqAt.EqAt A s u u' b := by
  intro n
  induction n with
  | zero =>
    intro A d d' v v' u u' b hu r r' q q' e
    cases d <;> cases d' <;> simp only [Z.eqN, RelD] at r r' e <;> first | (cases e; done) | skip
    all_goals cases e
    · subst r r'; cases q; cases q'; exact ⟨.none_none, .same _⟩
    · subst r r'; cases q; cases q'; exact ⟨.none_bool _, .none_bool _⟩
    · subst r r'; cases q; obtain ⟨_, rfl⟩ := q'; exact ⟨.none_int _ _, .none_int _ _⟩
    · obtain ⟨r', _⟩ := r'; subst r r'; cases q; obtain ⟨_, rfl⟩ := q'; exact ⟨.none_str _ _, .none_str _ _⟩
    · subst r r'; cases q; cases q'; exact ⟨.bool_none _, .bool_none _⟩
    · subst r r'; cases q; cases q'; exact ⟨.bool_bool _ _, .bool_bool _ _⟩
    · obtain ⟨r', _⟩ := r'; subst r r'; cases q; obtain ⟨_, rfl⟩ := q'; exact ⟨.bool_str _ _ _, .bool_str _ _ _⟩
    · subst r r'; cases q'; obtain ⟨_, rfl⟩ := q; exact ⟨.int_none _ _, .int_none _ _⟩
    · subst r r'; obtain ⟨_, rfl⟩ := q'; obtain ⟨_, rfl⟩ := q; exact ⟨.int_int _ _ _ _, .int_int _ _ _ _⟩
    · obtain ⟨r', _⟩ := r'; subst r r'; obtain ⟨_, rfl⟩ := q'; obtain ⟨_, rfl⟩ := q; exact ⟨.int_str _ _ _ _, .int_str _ _ _ _⟩
    · obtain ⟨r, _⟩ := r; subst r r'; cases q'; obtain ⟨_, rfl⟩ := q; exact ⟨.str_none _ _, .str_none _ _⟩
    · obtain ⟨r, _⟩ := r; subst r r'; cases q'; obtain ⟨_, rfl⟩ := q; exact ⟨.str_bool _ _ _, .str_bool _ _ _⟩
    · obtain ⟨r, _⟩ := r; subst r r'; obtain ⟨_, rfl⟩ := q'; obtain ⟨_, rfl⟩ := q; exact ⟨.str_int _ _ _ _, .str_int _ _ _ _⟩
    · obtain ⟨r, _⟩ := r; obtain ⟨r', _⟩ := r'; subst r r'; obtain ⟨_, rfl⟩ := q'; obtain ⟨_, rfl⟩ := q; rw [← str_beqA]; exact ⟨.str_str _ _ _ _, .str_str _ _ _ _⟩
  | succ n ih =>
    intro A d d' v v' u u' b hu r r' q q' e
    have hu' : A.units < cLine := by omega
    cases d <;> cases d' <;> simp only [Z.eqN, RelD] at r r' e <;> first | (cases e; done) | skip
    · cases e; subst r r'; cases q; cases q'; exact ⟨.none_none, .same _⟩
    · cases e; subst r r'; cases q; cases q'; exact ⟨.none_bool _, .none_bool _⟩
    · cases e; subst r r'; cases q; obtain ⟨_, rfl⟩ := q'; exact ⟨.none_int _ _, .none_int _ _⟩
    · cases e; obtain ⟨r', _⟩ := r'; subst r r'; cases q; obtain ⟨_, rfl⟩ := q'; exact ⟨.none_str _ _, .none_str _ _⟩
    · cases e; obtain ⟨a, ys, r', hq, _⟩ := r'; subst r r'; cases q; cases q'; obtain ⟨its, _, it, _⟩ := I.tuple hq; exact ⟨.none_tuple (show s.heap.IsTuple a its.toArray from it) hu', .none_tuple (show s.heap.IsTuple a its.toArray from it) hu'⟩
    · cases e; subst r r'; cases q; cases q'; exact ⟨.bool_none _, .bool_none _⟩
    · cases e; subst r r'; cases q; cases q'; exact ⟨.bool_bool _ _, .bool_bool _ _⟩
    · cases e; obtain ⟨r', _⟩ := r'; subst r r'; cases q; obtain ⟨_, rfl⟩ := q'; exact ⟨.bool_str _ _ _, .bool_str _ _ _⟩
    · cases e; obtain ⟨a, ys, r', hq, _⟩ := r'; subst r r'; cases q; cases q'; obtain ⟨its, _, it, _⟩ := I.tuple hq; exact ⟨.bool_tuple _ (show s.heap.IsTuple a its.toArray from it) hu', .bool_tuple _ (show s.heap.IsTuple a its.toArray from it) hu'⟩
    · cases e; subst r r'; cases q'; obtain ⟨_, rfl⟩ := q; exact ⟨.int_none _ _, .int_none _ _⟩
    · cases e; subst r r'; obtain ⟨_, rfl⟩ := q'; obtain ⟨_, rfl⟩ := q; exact ⟨.int_int _ _ _ _, .int_int _ _ _ _⟩
    · cases e; obtain ⟨r', _⟩ := r'; subst r r'; obtain ⟨_, rfl⟩ := q'; obtain ⟨_, rfl⟩ := q; exact ⟨.int_str _ _ _ _, .int_str _ _ _ _⟩
    · cases e; obtain ⟨a, ys, r', hq, _⟩ := r'; subst r r'; obtain ⟨_, rfl⟩ := q; cases q'; obtain ⟨its, _, it, _⟩ := I.tuple hq; exact ⟨.int_tuple _ _ (show s.heap.IsTuple a its.toArray from it) hu', .int_tuple _ _ (show s.heap.IsTuple a its.toArray from it) hu'⟩
    · cases e; obtain ⟨r, _⟩ := r; subst r r'; cases q'; obtain ⟨_, rfl⟩ := q; exact ⟨.str_none _ _, .str_none _ _⟩
    · cases e; obtain ⟨r, _⟩ := r; subst r r'; cases q'; obtain ⟨_, rfl⟩ := q; exact ⟨.str_bool _ _ _, .str_bool _ _ _⟩
    · cases e; obtain ⟨r, _⟩ := r; subst r r'; obtain ⟨_, rfl⟩ := q'; obtain ⟨_, rfl⟩ := q; exact ⟨.str_int _ _ _ _, .str_int _ _ _ _⟩
    · cases e; obtain ⟨r, _⟩ := r; obtain ⟨r', _⟩ := r'; subst r r'; obtain ⟨_, rfl⟩ := q'; obtain ⟨_, rfl⟩ := q; rw [← str_beqA]; exact ⟨.str_str _ _ _ _, .str_str _ _ _ _⟩
    · cases e; obtain ⟨a, ys, r', hq, _⟩ := r'; obtain ⟨r, _⟩ := r; subst r r'; obtain ⟨_, rfl⟩ := q; cases q'; obtain ⟨its, _, it, _⟩ := I.tuple hq; exact ⟨.str_tuple _ _ (show s.heap.IsTuple a its.toArray from it) hu', .str_tuple _ _ (show s.heap.IsTuple a its.toArray from it) hu'⟩
    · cases e; obtain ⟨a, ys, r, hq, _⟩ := r; subst r r'; cases q; cases q'; obtain ⟨its, _, it, _⟩ := I.tuple hq; exact ⟨.tuple_none (show s.heap.IsTuple a its.toArray from it) hu', .tuple_none (show s.heap.IsTuple a its.toArray from it) hu'⟩
    · cases e; obtain ⟨a, ys, r, hq, _⟩ := r; subst r r'; cases q; cases q'; obtain ⟨its, _, it, _⟩ := I.tuple hq; exact ⟨.tuple_bool _ (show s.heap.IsTuple a its.toArray from it) hu', .tuple_bool _ (show s.heap.IsTuple a its.toArray from it) hu'⟩
    · cases e; obtain ⟨a, ys, r, hq, _⟩ := r; subst r r'; cases q; obtain ⟨_, rfl⟩ := q'; obtain ⟨its, _, it, _⟩ := I.tuple hq; exact ⟨.tuple_int _ _ (show s.heap.IsTuple a its.toArray from it) hu', .tuple_int _ _ (show s.heap.IsTuple a its.toArray from it) hu'⟩
    · cases e; obtain ⟨a, ys, r, hq, _⟩ := r; obtain ⟨r', _⟩ := r'; subst r r'; cases q; obtain ⟨_, rfl⟩ := q'; obtain ⟨its, _, it, _⟩ := I.tuple hq; exact ⟨.tuple_str _ _ (show s.heap.IsTuple a its.toArray from it) hu', .tuple_str _ _ (show s.heap.IsTuple a its.toArray from it) hu'⟩
    · rename_i xs xs'
      obtain ⟨a, ys, e1, hq, rs⟩ := r
      obtain ⟨a', ys', e2, hq', rs'⟩ := r'
      subst e1 e2
      cases q; cases q'
      obtain ⟨its, vv, it, _⟩ := I.tuple hq
      obtain ⟨its', vv', it', _⟩ := I.tuple hq'
      obtain ⟨ee, h1, h2⟩ := eqZ_get e
      have hlen : its.toArray.size = xs.length := by rw [List.size_toArray, ← vv.length, ← rs.length]
      have hlen' : its'.toArray.size = xs'.length := by rw [List.size_toArray, ← vv'.length, ← rs'.length]
      have at' := items_at (A := A.in1) rs rs' vv vv' h1 (fun x x' y y' u u' b hx hx' hy hy' hb => (ih A.in1 x x' y y' u u' b (by show A.units + 1 + n < cLine; omega) hx hx' hy hy' hb).2)
      have rc : SeqAt.RcAt A s (.ref a) (.ref a') b := by
        have := SeqAt.RcAt.tuples (A := A) (show s.heap.IsTuple a its.toArray from it) (show s.heap.IsTuple a' its'.toArray from it') hu' at'
        rw [hlen, hlen', ← h2] at this
        exact this
      refine ⟨rc, ?_⟩
      by_cases ha : a = a'
      · subst ha
        have : b = true := eq_self_same I (n + 1) (.tup xs) (.tup xs') (.ref a) b (by simp only [RelD]; exact ⟨a, ys, rfl, hq, rs⟩) (by simp only [RelD]; exact ⟨a, ys', rfl, hq', rs'⟩) (by simp only [Z.eqN]; exact e)
        subst this
        exact .same _
      · exact .of_refs ha rc
end
end ZS
set_option linter.all false
set_option maxRecDepth 100000
set_option maxHeartbeats 4000000
namespace ZS
open PySem PySem.Spec PyProof.Rows L2
variable [R0]
section
variable {K : PySem.W.Frag} {ρ : List Addr} {h : Z.AH} {H : Hp}
theorem rel1' {ds : List Z.D} {x : V} (r : RelDs K ρ H ds [x]) : ∃ d, ds = [d] ∧ RelD K ρ H d x := by
  cases ds with
  | nil => simp only [RelDs] at r; cases r
  | cons d ds =>
    simp only [RelDs] at r
    obtain ⟨y, t, e, r1, r2⟩ := r
    cases e
    cases ds with
    | nil => exact ⟨d, rfl, r1⟩
    | cons _ _ => simp only [RelDs] at r2; obtain ⟨_, _, e, _⟩ := r2; cases e
theorem relCons' {ds : List Z.D} {x : V} {xs : List V} (r : RelDs K ρ H ds (x :: xs)) : ∃ d ds', ds = d :: ds' ∧ RelD K ρ H d x ∧ RelDs K ρ H ds' xs := by
  cases ds with
  | nil => simp only [RelDs] at r; cases r
  | cons d ds =>
    simp only [RelDs] at r
    obtain ⟨y, t, e, r1, r2⟩ := r
    cases e
    exact ⟨d, ds, rfl, r1, r2⟩
theorem rel2' {ds : List Z.D} {x y : V} (r : RelDs K ρ H ds [x, y]) : ∃ d e, ds = [d, e] ∧ RelD K ρ H d x ∧ RelD K ρ H e y := by
  obtain ⟨d, ds, rfl, r1, r⟩ := relCons' r
  obtain ⟨e, rfl, r2⟩ := rel1' r
  exact ⟨d, e, rfl, r1, r2⟩
theorem relNil' {ds : List Z.D} (r : RelDs K ρ H ds []) : ds = [] := by
  cases ds with
  | nil => rfl
  | cons _ _ => simp only [RelDs] at r; obtain ⟨_, _, e, _⟩ := r; cases e
theorem lstAt {n : Nat} {v : V} {xs : List Z.D} (R : Rep K ρ h H) (r : RelD K ρ H (.ref n) v) (e : h[n]? = some (.lst xs)) : ∃ a ys, v = .ref a ∧ ρ[n]? = some a ∧ H a = some (.lst ys) ∧ RelDs K ρ H xs ys := by
  simp only [RelD] at r
  obtain ⟨a, rfl, q⟩ := r
  obtain ⟨b, e1, ys, e2, rs⟩ := R.at_ n _ e
  rw [q] at e1; cases e1
  exact ⟨a, ys, rfl, q, e2, rs⟩
theorem dctAt {n : Nat} {v : V} {kvs : List (Z.KK × Z.D)} (R : Rep K ρ h H) (r : RelD K ρ H (.ref n) v) (e : h[n]? = some (.dct kvs)) : ∃ a kvs', v = .ref a ∧ ρ[n]? = some a ∧ H a = some (.dK kvs') ∧ kvs'.map (·.1) = kvs.map (fun p => kOf p.1) ∧ RelDs K ρ H (kvs.map (·.2)) (kvs'.map (·.2)) ∧ ∀ p ∈ kvs, ∀ s, p.1 = Sum.inr s → s.length ≤ Z.lim := by
  simp only [RelD] at r
  obtain ⟨a, rfl, q⟩ := r
  obtain ⟨b, e1, ys, e2, rs⟩ := R.at_ n _ e
  rw [q] at e1; cases e1
  exact ⟨a, ys, rfl, q, e2, rs⟩
theorem newL_inv {xs : List Z.D} {d : Z.D} {h' : Z.AH} (e : Z.newL xs h = some (d, h')) : xs.length ≤ Z.lim ∧ d = .ref h.length ∧ h' = h ++ [.lst xs] := by
  unfold Z.newL at e
  split at e
  · cases e; exact ⟨by assumption, rfl, rfl⟩
  · cases e
theorem setL_inv {n : Nat} {xs : List Z.D} {v d : Z.D} {h' : Z.AH} (e : Z.setL n xs v h = some (d, h')) : xs.length ≤ Z.lim ∧ d = v ∧ h' = h.set n (.lst xs) := by
  unfold Z.setL at e
  split at e
  · cases e; exact ⟨by assumption, rfl, rfl⟩
  · cases e
theorem set_list' {n : Nat} {a : Addr} {xs ys : List Z.D} {vs ws : List V} (R : Rep K ρ h H) (hn : ρ[n]? = some a) (ha : H a = some (.lst vs)) (r : RelDs K ρ H ys ws) : Ext K ρ H ρ (upd H a (.lst ws)) ∧ Rep K ρ (h.set n (.lst ys)) (upd H a (.lst ws)) := by
  have e : Ext K ρ H ρ (upd H a (.lst ws)) := Ext.write ha (fun _ => by simp) (fun _ _ => by simp)
  exact ⟨e, R.write hn ha (fun _ => by simp) (fun _ _ => by simp) ⟨ws, upd_same, RelDs.mono e _ _ r⟩⟩
theorem strLen (s : List Nat) : (⟨s.toArray⟩ : Str).length = s.length := by
  show s.toArray.size = _
  simp
theorem strApp (s t : List Nat) : (⟨s.toArray⟩ ++ ⟨t.toArray⟩ : Str) = ⟨(s ++ t).toArray⟩ := by
  show Str.mk (s.toArray ++ t.toArray) = _
  simp
end
section
variable {X : Cx} {sub : Nat → Nat → Bool}
theorem o_cmp {p : Z.Prim} {f : Int → Int → Bool} {op : Value → Value → Sem Value} (hp : Z.prim sub p = Z.pCmp f) (ho : OpR X op (rI0 fun i j => .bl (f i j))) : OpR X op (fun x y => rP X.K sub p [x, y]) := OpRw ho (by
  rintro x y H Q ⟨ρ, h, ds, d, h', R, r, q, k⟩
  obtain ⟨d1, d2, rfl, r1, r2⟩ := rel2' r
  rw [hp] at q
  unfold Z.pCmp at q
  split at q
  · rename_i e; cases e; cases q
    simp only [RelD] at r1 r2
    subst r1 r2
    exact ⟨_, _, rfl, rfl, k ρ H _ .refl R (by simp only [RelD])⟩
  · cases q)
theorem o_lt : OpR X (compareOp .Lt) (fun x y => rP X.K sub .lt [x, y]) := o_cmp rfl op_lt
theorem o_le : OpR X (compareOp .LtE) (fun x y => rP X.K sub .le [x, y]) := o_cmp rfl op_le
theorem o_gt : OpR X (compareOp .Gt) (fun x y => rP X.K sub .gt [x, y]) := o_cmp rfl op_gt
theorem o_ge : OpR X (compareOp .GtE) (fun x y => rP X.K sub .ge [x, y]) := o_cmp rfl op_ge
theorem o_mod : OpR X (binaryOp .Mod) (fun x y => rP X.K sub .mod [x, y]) := OpRw op_mod (by
  rintro x y H Q ⟨ρ, h, ds, d, h', R, r, q, k⟩
  obtain ⟨d1, d2, rfl, r1, r2⟩ := rel2' r
  change Z.pMod _ _ = _ at q
  unfold Z.pMod at q
  split at q
  · rename_i e; cases e
    split at q
    · cases q
      simp only [RelD] at r1 r2
      subst r1 r2
      exact ⟨_, _, rfl, rfl, by assumption, k ρ H _ .refl R (by simp only [RelD])⟩
    · cases q
  · cases q)
theorem log2_lt_of {n k : Nat} (hk : 0 < k) (h : n < 2 ^ k) : n.log2 < k := by
  by_cases z : n = 0
  · subst z; simpa using hk
  · exact (Nat.log2_lt z).mpr h
theorem nat_of_big {i : Int} (h : -2037035976334486086268445688409378161051468393665936250636140449354381299763336706183397376 < i ∧ i < 2037035976334486086268445688409378161051468393665936250636140449354381299763336706183397376) : i.natAbs < 2 ^ 300 := by
  have e : (2 : Nat) ^ 300 = 2037035976334486086268445688409378161051468393665936250636140449354381299763336706183397376 := by decide +kernel
  rw [e]; omega
theorem op_fdivB : OpR X (binaryOp .FloorDiv) (rI (fun _ j => 0 < j ∧ -2037035976334486086268445688409378161051468393665936250636140449354381299763336706183397376 < j ∧ j < 2037035976334486086268445688409378161051468393665936250636140449354381299763336706183397376) fun i j => .int (i / j)) := opI fun i j _ _ _ _ _ hc q => by
  have h1 : (0 : Int) < j := hc.1
  exact floordiv_int (Int.ne_of_gt h1) (by rw [Int.fdiv_eq_ediv_of_nonneg i (Int.le_of_lt h1)]; exact q) (.inl (PyProof.noPylong_of_log2 (Nat.lt_trans (log2_lt_of (by decide) (nat_of_big hc.2)) (by decide))))
theorem bits_of_big {i : Int} (h : -2037035976334486086268445688409378161051468393665936250636140449354381299763336706183397376 < i ∧ i < 2037035976334486086268445688409378161051468393665936250636140449354381299763336706183397376) : Builtin.Int.intBits i ≤ 2 ^ 20 := by
  have := log2_lt_of (by decide) (nat_of_big h)
  unfold Builtin.Int.intBits
  have e : (2 : Nat) ^ 20 = 1048576 := by decide
  rw [e]
  split <;> omega
theorem op_mulB : OpR X (binaryOp .Mult) (rI (fun i j => (-2037035976334486086268445688409378161051468393665936250636140449354381299763336706183397376 < i ∧ i < 2037035976334486086268445688409378161051468393665936250636140449354381299763336706183397376) ∧ (-2037035976334486086268445688409378161051468393665936250636140449354381299763336706183397376 < j ∧ j < 2037035976334486086268445688409378161051468393665936250636140449354381299763336706183397376)) fun i j => .int (i * j)) := opI fun i j _ _ _ _ _ hc q => mul_int q (.of_bits (bits_of_big hc.1) (bits_of_big hc.2))
theorem o_fdiv : OpR X (binaryOp .FloorDiv) (fun x y => rP X.K sub .fdiv [x, y]) := OpRw op_fdivB (by
  rintro x y H Q ⟨ρ, h, ds, d, h', R, r, q, k⟩
  obtain ⟨d1, d2, rfl, r1, r2⟩ := rel2' r
  change Z.pFdiv _ _ = _ at q
  unfold Z.pFdiv at q
  split at q
  · rename_i e; cases e
    split at q
    · rename_i hc
      cases q
      simp only [RelD] at r1 r2
      subst r1 r2
      exact ⟨_, _, rfl, rfl, ⟨hc.1, Z.bigI_iff.mp hc.2⟩, k ρ H _ .refl R (by simp only [RelD])⟩
    · cases q
  · cases q)
theorem u_neg : UnR X (unaryOp .USub) (fun x => rP X.K sub .neg [x]) := fun pins s σ H x v Q I rx ⟨ρ, h, ds, d, h', R, r, q, k⟩ => un_neg pins s σ H x v Q I rx (by
  obtain ⟨d1, rfl, r1⟩ := rel1' r
  change Z.pNeg _ _ = _ at q
  unfold Z.pNeg at q
  split at q
  · rename_i e; cases e; cases q
    simp only [RelD] at r1
    subst r1
    exact ⟨_, rfl, k ρ H _ .refl R (by simp only [RelD])⟩
  · cases q)
theorem Inv.rolM {pins : List (Addr × Obj)} {s : Shared} {σ : L2.St} {H : Hp} {l : Addr} {xs : List V} (I : Inv X pins σ H s) (q : SqF X.K H l xs) : xs.length ≤ sizeLine ∧ ∃ (its : List Value) (n : Nat), Vals xs its ∧ s.heap.get? l = some { cls := .type "list", data := .seq its.toArray n } := by
  rcases q with ⟨o, q⟩ | ⟨o, its, n, h1, h2, h3, h4, h5, h6, h7⟩
  · obtain ⟨z, its, n, r, e⟩ := Rd.ok (.inr ⟨o, q⟩) I.hok
    exact ⟨z, its, n, r, e⟩
  · have := h6.length
    refine ⟨by simp at this; omega, its.toList, n, h6, ?_⟩
    rw [I.kIn l o h1]
    obtain ⟨c, dd, da, sl⟩ := o
    cases h2; cases h3; cases h4; cases h7
    simp
theorem op_catE : OpR X (binaryOp .Add) (fun x y H Q => ∃ a b ys, x = .ref a ∧ y = .ref b ∧ SqT X.K H a [] ∧ SqT X.K H b ys ∧ Q (.ref b) H) := by
  intro pins s σ H x y v u Q I rx ry h
  obtain ⟨a, b, ys, rfl, rfl, ha, hb, q⟩ := h
  cases rx
  cases ry
  obtain ⟨its, r1, p1, _⟩ := I.tuple ha
  obtain ⟨its2, r2, p2, _⟩ := I.tuple hb
  obtain ⟨⟨cls, dd, data, sl⟩, ho, hc, n, hd⟩ := id p1
  obtain ⟨⟨cls2, dd2, data2, sl2⟩, ho2, hc2, n2, hd2⟩ := id p2
  simp only at hc hd hc2 hd2
  subst hc hd hc2 hd2
  cases r1
  exact concat_meets ⟨_, ho, rfl⟩ ⟨_, ho2, rfl⟩ noFill_tuple_add seq_tuple_add PySem.F.slot_tuple_add PySem.F.entry_tuple_add (PySem.F.args_tuple_add_2 _ _)
      (tuple_addW0 a b _ _ n n2 dd dd2 sl sl2 (by simp)) ⟨ho, ho2, ⟨.ref b, H, I, rfl, q⟩⟩
theorem op_catR : OpR X (binaryOp .Add) (fun x y H Q => ∃ l b xs zs, x = .ref l ∧ y = .ref b ∧ H l = some (.lst xs) ∧ SqF X.K H b zs ∧ xs.length + zs.length ≤ sizeLine ∧ ∀ p, H p = none → Q (.ref p) (upd H p (.lst (xs ++ zs)))) := by
  intro pins s σ H x y v u Q I rx ry h
  obtain ⟨l, b, xs, zs, rfl, rfl, hH, hB, hz, q⟩ := h
  cases rx
  cases ry
  obtain ⟨z, its, n, r, hl, e⟩ := I.lstM hH
  obtain ⟨z2, its2, n2, r2, e2⟩ := Inv.rolM I hB
  have hl2 := r2.length
  refine PySem.P.add_list e e2 ?_ (by rw [List.size_toArray, List.size_toArray]; omega)
  have ea : its.toArray ++ its2.toArray = (its ++ its2).toArray := by simp
  rw [ea]
  exact ⟨.ref _, _, I.lnew (t' := s.toks) (r.append r2) (by rw [List.length_append]; omega), rfl, q _ I.fresh⟩
theorem o_add : OpR X (binaryOp .Add) (fun x y => rP X.K sub .add [x, y]) := OpRw (op_add.or (op_add_str.or (op_cat.or (op_catT.or (op_catR.or op_catE))))) (by
  rintro x y H Q ⟨ρ, h, ds, d, h', R, r, q, k⟩
  obtain ⟨d1, d2, rfl, r1, r2⟩ := rel2' r
  change Z.pAdd _ _ = _ at q
  unfold Z.pAdd at q
  split at q
  · rename_i e; cases e; cases q
    simp only [RelD] at r1 r2
    subst r1 r2
    exact .inl ⟨_, _, rfl, rfl, k ρ H _ .refl R (by simp only [RelD])⟩
  · rename_i s t e; cases e
    split at q
    · rename_i hl
      cases q
      simp only [RelD] at r1 r2
      obtain ⟨rfl, l1⟩ := r1
      obtain ⟨rfl, l2⟩ := r2
      refine .inr (.inl ⟨_, _, rfl, rfl, by rw [strLen, strLen, ← limE]; exact hl, k ρ H _ .refl R ?_⟩)
      simp only [RelD]
      exact ⟨by rw [strApp], by rw [List.length_append]; exact hl⟩
    · cases q
  · rename_i s t e; cases e
    split at q
    · rename_i he
      cases q
      simp only [RelD] at r1 r2
      obtain ⟨a, ys, rfl, q1, r1⟩ := r1
      obtain ⟨b, zs, rfl, q2, r2⟩ := r2
      have hs : s = [] := by simpa using he
      subst hs
      simp only [RelDs] at r1
      subst r1
      exact .inr (.inr (.inr (.inr (.inr ⟨a, b, zs, rfl, rfl, q1, q2, k ρ H _ .refl R (by simp only [RelD]; exact ⟨b, zs, rfl, q2, r2⟩)⟩))))
    · rename_i hne
      split at q
      · rename_i hl
        cases q
        simp only [RelD] at r1 r2
        obtain ⟨a, ys, rfl, q1, r1⟩ := r1
        obtain ⟨b, zs, rfl, q2, r2⟩ := r2
        refine .inr (.inr (.inr (.inl ⟨a, b, ys, zs, rfl, rfl, q1, q2, ?_, by rw [← r1.length, ← r2.length, ← limE]; exact hl, fun hz => ?_, fun _ p hp => ?_⟩)))
        · intro z; subst z
          have := r1.length
          simp at this hne
          exact hne this
        · subst hz
          have := r2.length
          simp at this
          subst this
          rw [List.append_nil] at k
          exact k ρ H _ .refl R (by simp only [RelD]; exact ⟨a, ys, rfl, q1, r1⟩)
        · have e2 : Ext X.K ρ H ρ (upd H p (.tup (ys ++ zs))) := Ext.fresh hp
          exact k ρ _ _ e2 (R.fresh hp) (by simp only [RelD]; exact ⟨p, _, rfl, .of upd_same, RelDs.mono e2 _ _ (r1.append r2)⟩)
      · cases q
  · rename_i a b e; cases e
    split at q
    · rename_i xs ys e1 e2
      obtain ⟨l, vs, rfl, _, ha, r1⟩ := lstAt R r1 e1
      obtain ⟨l', vs', rfl, _, hb, r2⟩ := lstAt R r2 e2
      obtain ⟨hl, rfl, rfl⟩ := newL_inv q
      refine .inr (.inr (.inl ⟨l, l', vs, vs', rfl, rfl, ha, hb, by rw [← r1.length, ← r2.length, ← limE, ← List.length_append]; exact hl, fun p hp => ?_⟩))
      obtain ⟨e2, R2, r2⟩ := new_list R (r1.append r2) hp
      exact k _ _ _ e2 R2 r2
    · cases q
  · rename_i a ys e; cases e
    split at q
    · rename_i xs e1
      obtain ⟨l, vs, rfl, _, ha, r1⟩ := lstAt R r1 e1
      simp only [RelD] at r2
      obtain ⟨b, zs, rfl, q2, r2⟩ := r2
      obtain ⟨hl, rfl, rfl⟩ := newL_inv q
      refine .inr (.inr (.inr (.inr (.inl ⟨l, b, vs, zs, rfl, rfl, ha, q2, by rw [← r1.length, ← r2.length, ← limE, ← List.length_append]; exact hl, fun p hp => ?_⟩))))
      obtain ⟨e2, R2, r2⟩ := new_list R (r1.append r2) hp
      exact k _ _ _ e2 R2 r2
    · cases q
  · cases q)
theorem rel_rep {K : PySem.W.Frag} {ρ : List Addr} {H : Hp} {xs : List Z.D} {vs : List V} (n : Nat) (r : RelDs K ρ H xs vs) : RelDs K ρ H (List.replicate n xs).flatten (List.replicate n vs).flatten := by
  induction n with
  | zero => simp [RelDs]
  | succ n ih => rw [List.replicate_succ, List.replicate_succ, List.flatten_cons, List.flatten_cons]; exact r.append ih
theorem o_mul : OpR X (binaryOp .Mult) (fun x y => rP X.K sub .mul [x, y]) := by
  intro pins s σ H x y v u Q I rx ry ⟨ρ, h, ds, d, h', R, r, q, k⟩
  obtain ⟨d1, d2, rfl, r1, r2⟩ := rel2' r
  change Z.pMul _ _ = _ at q
  unfold Z.pMul at q
  split at q
  · rename_i i j e; cases e
    split at q
    · rename_i hc
      cases q
      simp only [RelD] at r1 r2
      subst r1 r2
      rw [Bool.or_eq_true] at hc
      rcases hc with hc | hc
      · refine op_mul pins s σ H _ _ v u Q I rx ry ⟨_, _, rfl, rfl, ?_, k ρ H _ .refl R (by simp only [RelD])⟩
        rw [Bool.or_eq_true] at hc
        exact hc.imp (fun z => by have := Z.smallI_iff.mp z; omega) (fun z => by have := Z.smallI_iff.mp z; omega)
      · rw [Bool.and_eq_true] at hc
        exact op_mulB pins s σ H _ _ v u Q I rx ry ⟨_, _, rfl, rfl, ⟨Z.bigI_iff.mp hc.1, Z.bigI_iff.mp hc.2⟩, k ρ H _ .refl R (by simp only [RelD])⟩
    · cases q
  · rename_i a kk e; cases e
    split at q
    · rename_i xs e1
      split at q
      · rename_i hk
        obtain ⟨l, vs, rfl, _, ha, r1⟩ := lstAt R r1 e1
        obtain ⟨hl, rfl, rfl⟩ := newL_inv q
        simp only [RelD] at r2
        subst r2
        have hk' := okR_of hk
        have hlen : vs.length * kk.toNat ≤ sizeLine := by
          rw [← r1.length, ← limE, Nat.mul_comm]
          rw [len_rep] at hl
          exact hl
        refine op_rep pins s σ H _ _ v u Q I rx ry ⟨l, kk, vs, rfl, rfl, ha, by omega, by omega, hlen, fun p hp => ?_⟩
        obtain ⟨e2, R2, r2⟩ := new_list R (rel_rep kk.toNat r1) hp
        exact k _ _ _ e2 R2 r2
      · cases q
    · cases q
  · cases q
theorem o_isN : OpR X (compareOp .Is) (fun x y H Q => y = .non ∧ rP X.K sub .isN [x] H Q) := OpRw op_isN (by
  rintro x y H Q ⟨rfl, ρ, h, ds, d, h', R, r, q, k⟩
  obtain ⟨d1, rfl, r1⟩ := rel1' r
  change Z.pIsN _ _ _ = _ at q
  unfold Z.pIsN at q
  refine ⟨rfl, ?_⟩
  split at q
  · rename_i e; cases e; cases q
    simp only [RelD] at r1
    subst r1
    exact k ρ H _ .refl R (by simp only [RelD]; rfl)
  · rename_i hn e; cases e; cases q
    have hx : x ≠ .non := by
      rintro rfl
      cases d1 <;> simp only [RelD] at r1 <;> first
        | exact hn rfl
        | (cases r1; done)
        | (obtain ⟨r1, _⟩ := r1; cases r1; done)
        | (obtain ⟨_, _, r1, _⟩ := r1; cases r1; done)
        | (obtain ⟨_, r1, _⟩ := r1; cases r1; done)
    exact k ρ H _ .refl R (by simp only [RelD]; rw [decide_eq_false hx])
  · cases q)
end
end ZS
set_option linter.all false
set_option maxRecDepth 100000
set_option maxHeartbeats 4000000
namespace ZS
open PySem PySem.Spec PyProof.Rows L2
variable [R0]
section
variable {X : Cx} {sub : Nat → Nat → Bool}
theorem rcNe_of {A : Around} {s : Shared} {u u' : Value} {pins : List (Addr × Obj)} {σ : L2.St} {H : Hp} {ρ : List Addr} (I : Inv X pins σ H s) (n : Nat) (d d' : Z.D) (v v' : V) (b : Bool) (hu : A.units + n < cLine) (r : RelD X.K ρ H d v) (r' : RelD X.K ρ H d' v') (q : RelV v u) (q' : RelV v' u') (e : Z.eqN n d d' = some b) :
    SeqAt.RcNeAt A s u u' (!b) := by
  cases n with
  | zero =>
    cases d <;> cases d' <;> simp only [Z.eqN, RelD] at r r' e <;> first | (cases e; done) | skip
    all_goals cases e
    · subst r r'; cases q; cases q'; exact .none_none
    · subst r r'; cases q; cases q'; exact .none_bool _
    · subst r r'; cases q; obtain ⟨_, rfl⟩ := q'; exact .none_int _ _
    · obtain ⟨r', _⟩ := r'; subst r r'; cases q; obtain ⟨_, rfl⟩ := q'; exact .none_str _ _
    · subst r r'; cases q; cases q'; exact .bool_none _
    · subst r r'; cases q; cases q'; exact .bool_bool _ _
    · obtain ⟨r', _⟩ := r'; subst r r'; cases q; obtain ⟨_, rfl⟩ := q'; exact .bool_str _ _ _
    · subst r r'; cases q'; obtain ⟨_, rfl⟩ := q; exact .int_none _ _
    · subst r r'; obtain ⟨_, rfl⟩ := q'; obtain ⟨_, rfl⟩ := q; exact .int_int _ _ _ _
    · obtain ⟨r', _⟩ := r'; subst r r'; obtain ⟨_, rfl⟩ := q'; obtain ⟨_, rfl⟩ := q; exact .int_str _ _ _ _
    · obtain ⟨r, _⟩ := r; subst r r'; cases q'; obtain ⟨_, rfl⟩ := q; exact .str_none _ _
    · obtain ⟨r, _⟩ := r; subst r r'; cases q'; obtain ⟨_, rfl⟩ := q; exact .str_bool _ _ _
    · obtain ⟨r, _⟩ := r; subst r r'; obtain ⟨_, rfl⟩ := q'; obtain ⟨_, rfl⟩ := q; exact .str_int _ _ _ _
    · obtain ⟨r, _⟩ := r; obtain ⟨r', _⟩ := r'; subst r r'; obtain ⟨_, rfl⟩ := q'; obtain ⟨_, rfl⟩ := q; rw [← str_beqA]; exact .str_str _ _ _ _
  | succ n =>
    have hu' : A.units < cLine := by omega
    cases d <;> cases d' <;> simp only [Z.eqN, RelD] at r r' e <;> first | (cases e; done) | skip
    · cases e; subst r r'; cases q; cases q'; exact .none_none
    · cases e; subst r r'; cases q; cases q'; exact .none_bool _
    · cases e; subst r r'; cases q; obtain ⟨_, rfl⟩ := q'; exact .none_int _ _
    · cases e; obtain ⟨r', _⟩ := r'; subst r r'; cases q; obtain ⟨_, rfl⟩ := q'; exact .none_str _ _
    · cases e; obtain ⟨a, ys, r', hq, _⟩ := r'; subst r r'; cases q; cases q'; obtain ⟨its, _, it, _⟩ := I.tuple hq; exact .none_tuple (show s.heap.IsTuple a its.toArray from it) hu'
    · cases e; subst r r'; cases q; cases q'; exact .bool_none _
    · cases e; subst r r'; cases q; cases q'; exact .bool_bool _ _
    · cases e; obtain ⟨r', _⟩ := r'; subst r r'; cases q; obtain ⟨_, rfl⟩ := q'; exact .bool_str _ _ _
    · cases e; obtain ⟨a, ys, r', hq, _⟩ := r'; subst r r'; cases q; cases q'; obtain ⟨its, _, it, _⟩ := I.tuple hq; exact .bool_tuple _ (show s.heap.IsTuple a its.toArray from it) hu'
    · cases e; subst r r'; cases q'; obtain ⟨_, rfl⟩ := q; exact .int_none _ _
    · cases e; subst r r'; obtain ⟨_, rfl⟩ := q'; obtain ⟨_, rfl⟩ := q; exact .int_int _ _ _ _
    · cases e; obtain ⟨r', _⟩ := r'; subst r r'; obtain ⟨_, rfl⟩ := q'; obtain ⟨_, rfl⟩ := q; exact .int_str _ _ _ _
    · cases e; obtain ⟨a, ys, r', hq, _⟩ := r'; subst r r'; obtain ⟨_, rfl⟩ := q; cases q'; obtain ⟨its, _, it, _⟩ := I.tuple hq; exact .int_tuple _ _ (show s.heap.IsTuple a its.toArray from it) hu'
    · cases e; obtain ⟨r, _⟩ := r; subst r r'; cases q'; obtain ⟨_, rfl⟩ := q; exact .str_none _ _
    · cases e; obtain ⟨r, _⟩ := r; subst r r'; cases q'; obtain ⟨_, rfl⟩ := q; exact .str_bool _ _ _
    · cases e; obtain ⟨r, _⟩ := r; subst r r'; obtain ⟨_, rfl⟩ := q'; obtain ⟨_, rfl⟩ := q; exact .str_int _ _ _ _
    · cases e; obtain ⟨r, _⟩ := r; obtain ⟨r', _⟩ := r'; subst r r'; obtain ⟨_, rfl⟩ := q'; obtain ⟨_, rfl⟩ := q; rw [← str_beqA]; exact .str_str _ _ _ _
    · cases e; obtain ⟨a, ys, r', hq, _⟩ := r'; obtain ⟨r, _⟩ := r; subst r r'; obtain ⟨_, rfl⟩ := q; cases q'; obtain ⟨its, _, it, _⟩ := I.tuple hq; exact .str_tuple _ _ (show s.heap.IsTuple a its.toArray from it) hu'
    · cases e; obtain ⟨a, ys, r, hq, _⟩ := r; subst r r'; cases q; cases q'; obtain ⟨its, _, it, _⟩ := I.tuple hq; exact .tuple_none (show s.heap.IsTuple a its.toArray from it) hu'
    · cases e; obtain ⟨a, ys, r, hq, _⟩ := r; subst r r'; cases q; cases q'; obtain ⟨its, _, it, _⟩ := I.tuple hq; exact .tuple_bool _ (show s.heap.IsTuple a its.toArray from it) hu'
    · cases e; obtain ⟨a, ys, r, hq, _⟩ := r; subst r r'; cases q; obtain ⟨_, rfl⟩ := q'; obtain ⟨its, _, it, _⟩ := I.tuple hq; exact .tuple_int _ _ (show s.heap.IsTuple a its.toArray from it) hu'
    · cases e; obtain ⟨a, ys, r, hq, _⟩ := r; obtain ⟨r', _⟩ := r'; subst r r'; cases q; obtain ⟨_, rfl⟩ := q'; obtain ⟨its, _, it, _⟩ := I.tuple hq; exact .tuple_str _ _ (show s.heap.IsTuple a its.toArray from it) hu'
    · rename_i xs xs'
      obtain ⟨a, ys, e1, hq, rs⟩ := r
      obtain ⟨a', ys', e2, hq', rs'⟩ := r'
      subst e1 e2
      cases q; cases q'
      obtain ⟨its, vv, it, _⟩ := I.tuple hq
      obtain ⟨its', vv', it', _⟩ := I.tuple hq'
      obtain ⟨ee, h1, h2⟩ := eqZ_get e
      have hlen : its.toArray.size = xs.length := by rw [List.size_toArray, ← vv.length, ← rs.length]
      have hlen' : its'.toArray.size = xs'.length := by rw [List.size_toArray, ← vv'.length, ← rs'.length]
      have at' := items_at (A := A.in1) rs rs' vv vv' h1 (fun x x' y y' u u' b hx hx' hy hy' hb => (rcAt_D I n A.in1 x x' y y' u u' b (by show A.units + 1 + n < cLine; omega) hx hx' hy hy' hb).2)
      have := SeqAt.RcNeAt.tuples (A := A) (show s.heap.IsTuple a its.toArray from it) (show s.heap.IsTuple a' its'.toArray from it') hu' at'
      rw [hlen, hlen', ← h2] at this
      exact this
theorem eqH_cases {h : Z.AH} {d1 d2 : Z.D} {b : Bool} (e : Z.eqH h d1 d2 = some b) : Z.eqN 150 d1 d2 = some b ∨ ∃ a c xs ys, d1 = .ref a ∧ d2 = .ref c ∧ h[a]? = some (.lst xs) ∧ h[c]? = some (.lst ys) ∧ Z.eqLs xs ys = some b := by
  unfold Z.eqH at e
  split at e
  · rename_i a c
    split at e
    · rename_i xs ys e1 e2
      exact .inr ⟨a, c, xs, ys, rfl, rfl, e1, e2, e⟩
    · cases e
  · exact .inl e
theorem o_eqne {neg : Bool} (hu : X.A.units + 200 < cLine) : OpR X (compareOp (if neg then .NotEq else .Eq)) (fun x y => rP X.K sub (if neg then .ne else .eq) [x, y]) := by
  intro pins s σ H x y v u Q I rx ry ⟨ρ, h, ds, d, h', R, r, q, k⟩
  obtain ⟨d1, d2, rfl, r1, r2⟩ := rel2' r
  have q' : Z.pEq neg [d1, d2] h = some (d, h') := by cases neg <;> exact q
  unfold Z.pEq at q'
  cases e : Z.eqH h d1 d2 with
  | none => simp only [e] at q'; cases q'
  | some b =>
    simp only [e] at q'
    cases q'
    have fin : EP X pins σ Q (.bool (b != neg)) s := ⟨.bl (b != neg), H, I, rfl, k ρ H _ .refl R (by simp only [RelD])⟩
    rcases eqH_cases e with e | ⟨a, c, xs, ys, rfl, rfl, e1, e2, e⟩
    · cases neg with
      | false => rw [Bool.bne_false] at fin; exact (rcAt_D I 150 X.A d1 d2 x y v u b (by omega) r1 r2 rx ry e).1 _ _ _ _ fin
      | true => rw [Bool.bne_true] at fin; exact rcNe_of I 150 d1 d2 x y b (by omega) r1 r2 rx ry e _ _ _ _ fin
    · obtain ⟨l, vs, rfl, _, ha, r1⟩ := lstAt R r1 e1
      obtain ⟨l', vs', rfl, _, hb, r2⟩ := lstAt R r2 e2
      cases rx; cases ry
      obtain ⟨its, vv, pl, _⟩ := I.list (.of ha)
      obtain ⟨its', vv', pl', _⟩ := I.list (.of hb)
      have hlen : its.toArray.size = xs.length := by rw [List.size_toArray, ← vv.length, ← r1.length]
      have hlen' : its'.toArray.size = ys.length := by rw [List.size_toArray, ← vv'.length, ← r2.length]
      unfold Z.eqLs at e
      split at e
      · rename_i hl
        obtain ⟨ee, h1, h2⟩ := eqZ_get e
        have at' := items_at (A := X.A.in1) r1 r2 vv vv' h1 (fun x x' y y' u u' b hx hx' hy hy' hb => (rcAt_D I 149 X.A.in1 x x' y y' u u' b (by show X.A.units + 1 + 149 < cLine; omega) hx hx' hy hy' hb).2)
        have hb' : b = (List.range its.toArray.size).all ee := by
          rw [h2, hlen, hl, Nat.min_self]; simp
        cases neg with
        | false => rw [Bool.bne_false, hb'] at fin; exact SeqAt.RcAt.lists pl.isList pl'.isList (by rw [hlen, hlen', hl]) (by omega) at' _ _ _ _ fin
        | true => rw [Bool.bne_true, hb'] at fin; exact SeqAt.RcNeAt.lists pl.isList pl'.isList (by rw [hlen, hlen', hl]) (by omega) at' _ _ _ _ fin
      · rename_i hl
        cases e
        cases neg with
        | false => exact SeqAt.RcAt.lists_lengths pl.isList pl'.isList (by rw [hlen, hlen']; simp [hl]) (by omega) _ _ _ _ fin
        | true => exact SeqAt.RcNeAt.lists_lengths pl.isList pl'.isList (by rw [hlen, hlen']; simp [hl]) (by omega) _ _ _ _ fin
theorem o_eq (hu : X.A.units + 200 < cLine) : OpR X (compareOp .Eq) (fun x y => rP X.K sub .eq [x, y]) := o_eqne (neg := false) hu
theorem o_ne (hu : X.A.units + 200 < cLine) : OpR X (compareOp .NotEq) (fun x y => rP X.K sub .ne [x, y]) := o_eqne (neg := true) hu
section
variable {pins : List (Addr × Obj)} {σ : L2.St} {H : Hp} {s : Shared} {ρ : List Addr} {h : Z.AH}
theorem noK (I : Inv X pins σ H s) {a : Addr} {o : Obj} {u : HO} (e : X.K.lookup a = some o) (e' : H a = some u) : False := by
  have := (I.bs a o (I.mod.kin a o e)).2
  rw [e'] at this; cases this
theorem tup_tracked (I : Inv X pins σ H s) (R : Rep X.K ρ h H) {n : Nat} {a : Addr} {ys : List V} (e : ρ[n]? = some a) (q : SqT X.K H a ys) : False := by
  have hn : n < h.length := by rw [← R.len]; exact (List.getElem?_eq_some_iff.mp e).1
  obtain ⟨b, e1, r⟩ := R.at_ n h[n] (by simp [hn])
  rw [e] at e1; cases e1
  have nt : (∀ xs, H a ≠ some (.tup xs)) ∧ (∀ o xs, H a ≠ some (.frz o (.tup xs))) ∧ ∃ u, H a = some u := by
    cases ho : h[n] with
    | lst xs => rw [ho] at r; obtain ⟨ys, q, _⟩ := r; rw [q]; exact ⟨(fun _ z => by cases z), (fun _ _ z => by cases z), _, rfl⟩
    | dct xs => rw [ho] at r; obtain ⟨ys, q, _⟩ := r; rw [q]; exact ⟨(fun _ z => by cases z), (fun _ _ z => by cases z), _, rfl⟩
    | obj _ _ => rw [ho] at r; obtain ⟨C, dx, fs', _, q, _⟩ := r; rw [q]; exact ⟨(fun _ z => by cases z), (fun _ _ z => by cases z), _, rfl⟩
    | exc _ => rw [ho] at r; obtain ⟨C, oe, _, q, _⟩ := r; rw [q]; exact ⟨(fun _ z => by cases z), (fun _ _ z => by cases z), _, rfl⟩
  obtain ⟨n1, n2, u, hu⟩ := nt
  rcases q with (q | ⟨o, q⟩) | ⟨o, _, _, q, _⟩
  · exact n1 _ q
  · exact n2 _ _ q
  · exact noK I q hu
theorem rol_tracked (I : Inv X pins σ H s) (R : Rep X.K ρ h H) {n : Nat} {a : Addr} {ys : List V} (e : ρ[n]? = some a) (q : SqF X.K H a ys) : False := by
  have hn : n < h.length := by rw [← R.len]; exact (List.getElem?_eq_some_iff.mp e).1
  obtain ⟨b, e1, r⟩ := R.at_ n h[n] (by simp [hn])
  rw [e] at e1; cases e1
  have nt : (∀ o xs, H a ≠ some (.frz o (.lst xs))) ∧ ∃ u, H a = some u := by
    cases ho : h[n] with
    | lst xs => rw [ho] at r; obtain ⟨ys, q, _⟩ := r; rw [q]; exact ⟨(fun _ _ z => by cases z), _, rfl⟩
    | dct xs => rw [ho] at r; obtain ⟨ys, q, _⟩ := r; rw [q]; exact ⟨(fun _ _ z => by cases z), _, rfl⟩
    | obj _ _ => rw [ho] at r; obtain ⟨C, dx, fs', _, q, _⟩ := r; rw [q]; exact ⟨(fun _ _ z => by cases z), _, rfl⟩
    | exc _ => rw [ho] at r; obtain ⟨C, oe, _, q, _⟩ := r; rw [q]; exact ⟨(fun _ _ z => by cases z), _, rfl⟩
  obtain ⟨n2, u, hu⟩ := nt
  rcases q with ⟨o, q⟩ | ⟨o, _, _, q, _⟩
  · exact n2 _ _ q
  · exact noK I q hu
theorem tup_rol (I : Inv X pins σ H s) {a : Addr} {ys zs : List V} (q : SqT X.K H a ys) (q' : SqF X.K H a zs) : False := by
  rcases q with (q | ⟨o, q⟩) | ⟨o, _, _, q, c, _⟩ <;> rcases q' with ⟨o', q'⟩ | ⟨o', _, _, q', c', _⟩
  · rw [q] at q'; cases q'
  · exact noK I q' q
  · rw [q] at q'; cases q'
  · exact noK I q' q
  · exact noK I q q'
  · rw [q] at q'; cases q'
    rw [c] at c'
    exact absurd c' (by decide)
mutual
theorem RelD.inj (I : Inv X pins σ H s) (R : Rep X.K ρ h H) : ∀ (d d' : Z.D) (v : V), RelD X.K ρ H d v → RelD X.K ρ H d' v → d = d'
  | .non, d', v, r, r' => by
    simp only [RelD] at r; subst r
    cases d' <;> simp only [RelD] at r' <;> first | rfl | (cases r'; done) | (obtain ⟨r', _⟩ := r'; cases r'; done) | (obtain ⟨_, _, r', _⟩ := r'; cases r'; done) | (obtain ⟨_, r', _⟩ := r'; cases r'; done)
  | .bl b, d', v, r, r' => by
    simp only [RelD] at r; subst r
    cases d' <;> simp only [RelD] at r' <;> first | (cases r'; rfl) | (cases r'; done) | (obtain ⟨r', _⟩ := r'; cases r'; done) | (obtain ⟨_, _, r', _⟩ := r'; cases r'; done) | (obtain ⟨_, r', _⟩ := r'; cases r'; done)
  | .int b, d', v, r, r' => by
    simp only [RelD] at r; subst r
    cases d' <;> simp only [RelD] at r' <;> first | (cases r'; rfl) | (cases r'; done) | (obtain ⟨r', _⟩ := r'; cases r'; done) | (obtain ⟨_, _, r', _⟩ := r'; cases r'; done) | (obtain ⟨_, r', _⟩ := r'; cases r'; done)
  | .str b, d', v, r, r' => by
    simp only [RelD] at r; obtain ⟨rfl, _⟩ := r
    cases d' <;> simp only [RelD] at r' <;> first | (cases r'; done) | (obtain ⟨r', _⟩ := r'; injection r' with r'; injection r' with r'; rw [List.toArray_inj r']; done) | (obtain ⟨r', _⟩ := r'; cases r'; done) | (obtain ⟨_, _, r', _⟩ := r'; cases r'; done) | (obtain ⟨_, r', _⟩ := r'; cases r'; done)
  | .tup xs, d', v, r, r' => by
    simp only [RelD] at r; obtain ⟨a, ys, rfl, q, rs⟩ := r
    cases d' with
    | tup xs' =>
      simp only [RelD] at r'
      obtain ⟨a', ys', e, q', rs'⟩ := r'
      cases e
      have := I.tuple_inj q q'
      subst this
      rw [RelDs.inj I R xs xs' ys rs rs']
    | rol xs' => simp only [RelD] at r'; obtain ⟨a', ys', e, q', rs'⟩ := r'; cases e; exact (tup_rol I q q').elim
    | ref n => simp only [RelD] at r'; obtain ⟨a', e, q'⟩ := r'; cases e; exact (tup_tracked I R q' q).elim
    | non => simp only [RelD] at r'; cases r'
    | bl _ => simp only [RelD] at r'; cases r'
    | int _ => simp only [RelD] at r'; cases r'
    | str _ => simp only [RelD] at r'; cases r'.1
  | .rol xs, d', v, r, r' => by
    simp only [RelD] at r; obtain ⟨a, ys, rfl, q, rs⟩ := r
    cases d' with
    | rol xs' =>
      simp only [RelD] at r'
      obtain ⟨a', ys', e, q', rs'⟩ := r'
      cases e
      have := I.list_inj q.sqL q'.sqL
      subst this
      rw [RelDs.inj I R xs xs' ys rs rs']
    | tup xs' => simp only [RelD] at r'; obtain ⟨a', ys', e, q', rs'⟩ := r'; cases e; exact (tup_rol I q' q).elim
    | ref n => simp only [RelD] at r'; obtain ⟨a', e, q'⟩ := r'; cases e; exact (rol_tracked I R q' q).elim
    | non => simp only [RelD] at r'; cases r'
    | bl _ => simp only [RelD] at r'; cases r'
    | int _ => simp only [RelD] at r'; cases r'
    | str _ => simp only [RelD] at r'; cases r'.1
  | .ref n, d', v, r, r' => by
    simp only [RelD] at r; obtain ⟨a, rfl, q⟩ := r
    cases d' with
    | ref m => simp only [RelD] at r'; obtain ⟨a', e, q'⟩ := r'; cases e; rw [nodup_inj R.nd q q']
    | rol xs' => simp only [RelD] at r'; obtain ⟨a', ys', e, q', rs'⟩ := r'; cases e; exact (rol_tracked I R q q').elim
    | tup xs' => simp only [RelD] at r'; obtain ⟨a', ys', e, q', rs'⟩ := r'; cases e; exact (tup_tracked I R q q').elim
    | non => simp only [RelD] at r'; cases r'
    | bl _ => simp only [RelD] at r'; cases r'
    | int _ => simp only [RelD] at r'; cases r'
    | str _ => simp only [RelD] at r'; cases r'.1
theorem RelDs.inj (I : Inv X pins σ H s) (R : Rep X.K ρ h H) : ∀ (d d' : List Z.D) (v : List V), RelDs X.K ρ H d v → RelDs X.K ρ H d' v → d = d'
  | [], d', v, r, r' => by simp only [RelDs] at r; subst r; exact (relNil' r').symm
  | x :: xs, d', v, r, r' => by
    simp only [RelDs] at r
    obtain ⟨y, t, rfl, q, rs⟩ := r
    obtain ⟨x', xs', rfl, q', rs'⟩ := relCons' r'
    rw [RelD.inj I R x x' y q q', RelDs.inj I R xs xs' t rs rs']
end
theorem inDs_get {x : Z.D} : ∀ {ys : List Z.D} {b : Bool}, Z.inDs x ys = some b → ∃ e : Nat → Bool, (∀ (j : Nat) y, ys[j]? = some y → Z.eqN 149 y x = some (e j)) ∧ b = (List.range ys.length).any e := by
  intro ys
  induction ys with
  | nil => intro b h; simp only [Z.inDs] at h; cases h; exact ⟨fun _ => true, fun j y h => by simp at h, by simp⟩
  | cons y ys ih =>
    intro b h
    simp only [Z.inDs] at h
    split at h
    · rename_i a c ea ec
      cases h
      obtain ⟨e, h1, h2⟩ := ih ec
      refine ⟨fun j => match j with | 0 => a | j + 1 => e j, fun j y' hy => ?_, ?_⟩
      · cases j with
        | zero => simp at hy; subst hy; exact ea
        | succ j => exact h1 j y' (by simpa using hy)
      · rw [h2, List.length_cons, List.range_succ_eq_map, List.any_cons, List.any_map]; rfl
    · cases h
theorem in_word {A : Around} {d1 : Z.D} {x : V} {v : Value} {ys : List Z.D} {vs : List V} {its : List Value} {b : Bool} (I : Inv X pins σ H s) (R : Rep X.K ρ h H) (hu : A.units + 200 < cLine) (r1 : RelD X.K ρ H d1 x) (rx : RelV x v) (rs : RelDs X.K ρ H ys vs) (vv : Vals vs its) (e : Z.inDs d1 ys = some b) :
    ∃ f : Value → Bool, (∀ y, y ∈ its.toArray → SeqAt.EqAt A.in1 s y v (f y)) ∧ its.toArray.any f = b := by
  obtain ⟨g, h1, h2⟩ := inDs_get e
  have at_ : ∀ (j : Nat) (u : Value), its[j]? = some u → SeqAt.EqAt A.in1 s u v (g j) := fun j u hj => by
    have hl : j < ys.length := by rw [rs.length, vv.length]; exact (List.getElem?_eq_some_iff.mp hj).1
    obtain ⟨y, ey, ry⟩ := rs.get (i := j) (x := ys[j]) (by simp [hl])
    obtain ⟨u', eu, ru⟩ := vv.get ey
    rw [hj] at eu; cases eu
    exact (rcAt_D I 149 A.in1 ys[j] d1 y x u v (g j) (by show A.units + 1 + 149 < cLine; omega) ry r1 ru rx (h1 j _ (by simp [hl]))).2
  have one : ∀ (i j : Nat) (u : Value), its[i]? = some u → its[j]? = some u → g i = g j := fun i j u hi hj => by
    have li : i < ys.length := by rw [rs.length, vv.length]; exact (List.getElem?_eq_some_iff.mp hi).1
    have lj : j < ys.length := by rw [rs.length, vv.length]; exact (List.getElem?_eq_some_iff.mp hj).1
    obtain ⟨y, ey, ry⟩ := rs.get (i := i) (x := ys[i]) (by simp [li])
    obtain ⟨y', ey', ry'⟩ := rs.get (i := j) (x := ys[j]) (by simp [lj])
    obtain ⟨u', eu, ru⟩ := vv.get ey
    rw [hi] at eu; cases eu
    obtain ⟨u', eu, ru'⟩ := vv.get ey'
    rw [hj] at eu; cases eu
    have := ru.inj ru'
    subst this
    have ed := RelD.inj I R _ _ _ ry ry'
    have a := h1 i _ (show ys[i]? = some ys[i] by simp [li])
    have c := h1 j _ (show ys[j]? = some ys[j] by simp [lj])
    rw [ed, c] at a
    exact (Option.some.inj a).symm
  classical
  refine ⟨fun u => if hu : ∃ j : Nat, its[j]? = some u then g (Classical.choose hu) else false, fun y hy => ?_, ?_⟩
  · obtain ⟨j, hj, ej⟩ := List.getElem_of_mem (List.mem_toArray.mp hy)
    have ex : ∃ j : Nat, its[j]? = some y := ⟨j, by rw [List.getElem?_eq_getElem hj, ej]⟩
    show SeqAt.EqAt _ _ _ _ (if hu : ∃ j : Nat, its[j]? = some y then g (Classical.choose hu) else false)
    rw [dif_pos ex]
    exact at_ _ _ (Classical.choose_spec ex)
  · rw [h2, List.any_toArray]
    have hlen : ys.length = its.length := by rw [rs.length, vv.length]
    apply Bool.eq_iff_iff.mpr
    rw [List.any_eq_true, List.any_eq_true]
    constructor
    · rintro ⟨u, hu', hf⟩
      obtain ⟨j, hj, ej⟩ := List.getElem_of_mem hu'
      have ex : ∃ j : Nat, its[j]? = some u := ⟨j, by rw [List.getElem?_eq_getElem hj, ej]⟩
      rw [dif_pos ex] at hf
      refine ⟨j, List.mem_range.mpr (by rw [hlen]; exact hj), ?_⟩
      rw [one j _ u (by rw [List.getElem?_eq_getElem hj, ej]) (Classical.choose_spec ex)]
      exact hf
    · rintro ⟨j, hj, hg⟩
      have hj' : j < its.length := by rw [← hlen]; exact List.mem_range.mp hj
      have ex : ∃ i : Nat, its[i]? = some its[j] := ⟨j, by simp [hj']⟩
      refine ⟨its[j], List.getElem_mem hj', ?_⟩
      rw [dif_pos ex, ← one j _ its[j] (by simp [hj']) (Classical.choose_spec ex)]
      exact hg
end
end
end ZS
set_option linter.all false
set_option maxRecDepth 100000
set_option maxHeartbeats 4000000
namespace ZS
open PySem PySem.Spec PyProof.Rows L2
variable [R0]
section
variable {X : Cx} {sub : Nat → Nat → Bool}
theorem kOf_inj {a b : Z.KK} (h : kOf a = kOf b) : a = b := by
  cases a <;> cases b <;> simp only [kOf] at h
  · cases h; rfl
  · cases h
  · cases h
  · injection h with h
    injection h with h
    rw [List.toArray_inj h]
theorem kOf_dec (a b : Z.KK) : decide (kOf a = kOf b) = decide (a = b) := by
  by_cases e : a = b
  · subst e; simp
  · rw [decide_eq_false e, decide_eq_false fun q => e (kOf_inj q)]
theorem kk_rel {K : PySem.W.Frag} {ρ : List Addr} {H : Hp} {d : Z.D} {k : Z.KK} {v : V} (e : Z.kkOf d = some k) (r : RelD K ρ H d v) : v = kV (kOf k) ∧ ∀ s, k = Sum.inr s → s.length ≤ Z.lim := by
  cases d <;> simp only [Z.kkOf] at e <;> first | (cases e; done) | skip
  · cases e; simp only [RelD] at r; subst r; exact ⟨rfl, fun s z => by cases z⟩
  · cases e; simp only [RelD] at r; obtain ⟨rfl, l⟩ := r; exact ⟨rfl, fun s z => by cases z; exact l⟩
theorem val_rel {K : PySem.W.Frag} {ρ : List Addr} {H : Hp} (k : Z.KK) : ∀ (kvs : List (Z.KK × Z.D)) (kvs' : List (Key × V)), kvs'.map (·.1) = kvs.map (fun p => kOf p.1) → RelDs K ρ H (kvs.map (·.2)) (kvs'.map (·.2)) →
    match Z.dGet kvs k with
    | some d => ∃ v, valV kvs' (kOf k) = some v ∧ RelD K ρ H d v
    | none => valV kvs' (kOf k) = none
  | [], kvs', h1, h2 => by
    cases kvs' with
    | nil => rfl
    | cons _ _ => cases h1
  | (k1, d1) :: kvs, kvs', h1, h2 => by
    cases kvs' with
    | nil => cases h1
    | cons p kvs' =>
      obtain ⟨k2, v2⟩ := p
      simp only [List.map_cons, List.cons.injEq] at h1
      obtain ⟨rfl, h1⟩ := h1
      simp only [List.map_cons, RelDs] at h2
      obtain ⟨y, t, e, r1, r2⟩ := h2
      cases e
      have ih := val_rel k kvs kvs' h1 r2
      unfold Z.dGet valV at ih ⊢
      rw [List.find?_cons, List.find?_cons, kOf_dec]
      by_cases e : k1 = k
      · subst e
        simp
        exact r1
      · simp only [decide_eq_false e]
        exact ih
theorem o_in_ {neg : Bool} (hu : X.A.units + 200 < cLine) : OpR X (compareOp (if neg then .NotIn else .In)) (fun x y => rP X.K sub (if neg then .notin else .in_) [x, y]) := by
  intro pins s σ H x y v u Q I rx ry ⟨ρ, h, ds, d, h', R, r, q, k⟩
  obtain ⟨d1, d2, rfl, r1, r2⟩ := rel2' r
  have q' : Z.pIn neg [d1, d2] h = some (d, h') := by cases neg <;> exact q
  unfold Z.pIn at q'
  split at q'
  · rename_i e; cases e; rename_i ys
    cases e : Z.inDs d1 ys with
    | none => rw [e] at q'; cases q'
    | some b =>
      rw [e] at q'; cases q'
      simp only [RelD] at r2
      obtain ⟨a, vs, rfl, hq, rs⟩ := r2
      cases ry
      obtain ⟨its, vv, it, _⟩ := I.tuple hq
      obtain ⟨f, f1, f2⟩ := in_word I R hu r1 rx rs vv e
      have fin : EP X pins σ Q (.bool (b != neg)) s := ⟨.bl (b != neg), H, I, rfl, k ρ H _ .refl R (by simp only [RelD])⟩
      cases neg with
      | false => exact SeqAt.in_tupleAt f (show s.heap.IsTuple a its.toArray from it) f1 (by rw [f2]; rw [Bool.bne_false] at fin; exact fin)
      | true => exact SeqAt.notIn_tupleAt f (show s.heap.IsTuple a its.toArray from it) f1 (by rw [f2]; rw [Bool.bne_true] at fin; exact fin)
  · rename_i e; cases e; rename_i ys
    cases e : Z.inDs d1 ys with
    | none => rw [e] at q'; cases q'
    | some b =>
      rw [e] at q'; cases q'
      simp only [RelD] at r2
      obtain ⟨a, vs, rfl, hq, rs⟩ := r2
      cases ry
      obtain ⟨its, vv, it, _⟩ := I.list hq.sqL
      obtain ⟨f, f1, f2⟩ := in_word I R hu r1 rx rs vv e
      have fin : EP X pins σ Q (.bool (b != neg)) s := ⟨.bl (b != neg), H, I, rfl, k ρ H _ .refl R (by simp only [RelD])⟩
      cases neg with
      | false => exact SeqAt.in_listAt f it.isList f1 (by rw [f2]; rw [Bool.bne_false] at fin; exact fin)
      | true => exact SeqAt.notIn_listAt f it.isList f1 (by rw [f2]; rw [Bool.bne_true] at fin; exact fin)
  · rename_i e; cases e; rename_i n
    split at q'
    · rename_i ys e1
      cases e : Z.inDs d1 ys with
      | none => rw [e] at q'; cases q'
      | some b =>
        rw [e] at q'; cases q'
        obtain ⟨a, vs, rfl, _, hq, rs⟩ := lstAt R r2 e1
        cases ry
        obtain ⟨its, vv, it, _⟩ := I.list (.of hq)
        obtain ⟨f, f1, f2⟩ := in_word I R hu r1 rx rs vv e
        have fin : EP X pins σ Q (.bool (b != neg)) s := ⟨.bl (b != neg), H, I, rfl, k ρ H _ .refl R (by simp only [RelD])⟩
        cases neg with
        | false => exact SeqAt.in_listAt f it.isList f1 (by rw [f2]; rw [Bool.bne_false] at fin; exact fin)
        | true => exact SeqAt.notIn_listAt f it.isList f1 (by rw [f2]; rw [Bool.bne_true] at fin; exact fin)
    · rename_i kvs e1
      cases e : Z.kkOf d1 with
      | none => rw [e] at q'; cases q'
      | some kk =>
        rw [e] at q'; cases q'
        obtain ⟨a, kvs', rfl, _, hq, hk, rs, _⟩ := dctAt R r2 e1
        obtain ⟨rfl, _⟩ := kk_rel e r1
        cases ry
        have vr := val_rel (K := X.K) (ρ := ρ) (H := H) kk kvs kvs' hk rs
        have his : (valV kvs' (kOf kk)).isSome = (Z.dGet kvs kk).isSome := by
          cases e : Z.dGet kvs kk with
          | none => rw [e] at vr; rw [vr]; rfl
          | some d => rw [e] at vr; obtain ⟨v, e', _⟩ := vr; rw [e']; rfl
        have fin : Q (.bl ((Z.dGet kvs kk).isSome != neg)) H := k ρ H _ .refl R (by simp only [RelD])
        have g : DGet H a (kV (kOf kk)) (valV kvs' (kOf kk)) := DGet.k hq
        cases neg with
        | false => exact d_in (by omega) I g rx fun s' I' => ⟨.bl _, H, I', rfl, by rw [his]; rw [Bool.bne_false] at fin; exact fin⟩
        | true => exact d_notIn (by omega) I g rx fun s' I' => ⟨.bl _, H, I', rfl, by rw [his]; rw [Bool.bne_true] at fin; exact fin⟩
    · cases q'
  · cases q'
theorem o_in (hu : X.A.units + 200 < cLine) : OpR X (compareOp .In) (fun x y => rP X.K sub .in_ [x, y]) := o_in_ (neg := false) hu
theorem o_notin (hu : X.A.units + 200 < cLine) : OpR X (compareOp .NotIn) (fun x y => rP X.K sub .notin [x, y]) := o_in_ (neg := true) hu
theorem atI_rel {K : PySem.W.Frag} {ρ : List Addr} {H : Hp} {xs : List Z.D} {ys : List V} {i : Int} {d : Z.D} (r : RelDs K ρ H xs ys) (e : Z.atI xs i = some d) : ∃ v, atI ys i = some v ∧ RelD K ρ H d v := by
  unfold Z.atI at e
  cases ej : Z.ixN xs.length i with
  | none => rw [ej] at e; cases e
  | some j =>
    rw [ej] at e
    obtain ⟨v, e1, e2⟩ := r.get (i := j) e
    refine ⟨v, ?_, e2⟩
    unfold atI
    rw [← r.length]
    show (Z.ixN xs.length i).bind _ = _
    rw [ej]
    exact e1
theorem i_idx (hu : X.A.units + 200 < cLine) : IxR X (fun x y => rP X.K sub .idx [x, y]) := by
  intro value slice pins s σ H x y v u Q I rx ry ⟨ρ, h, ds, d, h', R, r, q, k⟩ hs
  obtain ⟨d1, d2, rfl, r1, r2⟩ := rel2' r
  change Z.pIdx _ _ = _ at q
  unfold Z.pIdx at q
  split at q
  · rename_i a i e; cases e
    cases e : Z.atI a i with
    | none => rw [e] at q; cases q
    | some c =>
      rw [e] at q; cases q
      simp only [RelD] at r1 r2
      obtain ⟨rfl, hl⟩ := r1
      subst r2
      refine ix_seq value slice pins s σ H _ _ v u Q I rx ry (.inr (.inr ⟨_, i, c, rfl, rfl, by rw [strLen, ← limE]; exact hl, e, k ρ H _ .refl R ?_⟩)) hs
      unfold RelD
      exact ⟨rfl, by show 1 ≤ 16777216; decide⟩
  · rename_i xs i e; cases e
    cases e : Z.atI xs i with
    | none => rw [e] at q; cases q
    | some c =>
      rw [e] at q; cases q
      simp only [RelD] at r1 r2
      obtain ⟨a, ys, rfl, hq, rs⟩ := r1
      subst r2
      obtain ⟨w, e1, e2⟩ := atI_rel rs e
      exact ix_seq value slice pins s σ H _ _ v u Q I rx ry (.inr (.inl ⟨a, ys, i, w, rfl, rfl, hq, e1, k ρ H _ .refl R e2⟩)) hs
  · rename_i xs i e; cases e
    cases e : Z.atI xs i with
    | none => rw [e] at q; cases q
    | some c =>
      rw [e] at q; cases q
      simp only [RelD] at r1 r2
      obtain ⟨a, ys, rfl, hq, rs⟩ := r1
      subst r2
      obtain ⟨w, e1, e2⟩ := atI_rel rs e
      exact ix_seq value slice pins s σ H _ _ v u Q I rx ry (.inl ⟨a, ys, i, w, rfl, rfl, hq.sqL, e1, k ρ H _ .refl R e2⟩) hs
  · rename_i n kd e; cases e
    split at q
    · rename_i kvs e1
      cases e : Z.kkOf d2 with
      | none => rw [e] at q; cases q
      | some kk =>
        rw [e] at q
        cases e' : Z.dGet kvs kk with
        | none => simp [e'] at q
        | some dv =>
          simp [e'] at q
          obtain ⟨rfl, rfl⟩ := q
          obtain ⟨a, kvs', rfl, _, hq, hk, rs, _⟩ := dctAt R r1 e1
          obtain ⟨rfl, _⟩ := kk_rel e r2
          cases rx
          have vr := val_rel (K := X.K) (ρ := ρ) (H := H) kk kvs kvs' hk rs
          rw [e'] at vr
          obtain ⟨w, ew, rw'⟩ := vr
          have g : DGet H a (kV (kOf kk)) (some w) := by rw [← ew]; exact DGet.k hq
          exact tail_any (dict_typeIs I g) PySem.F.slot_dict_getitem.lookup (d_getItem (by omega) I g ry fun w' s3 I3 rw'' => ⟨w, H, I3, rw'', k ρ H _ .refl R rw'⟩) hs
    · rename_i xs e1
      split at q
      · rename_i i
        cases e : Z.atI xs i with
        | none => rw [e] at q; cases q
        | some c =>
          rw [e] at q; cases q
          obtain ⟨a, ys, rfl, _, hq, rs⟩ := lstAt R r1 e1
          simp only [RelD] at r2
          subst r2
          obtain ⟨w, e1, e2⟩ := atI_rel rs e
          exact ix_seq value slice pins s σ H _ _ v u Q I rx ry (.inl ⟨a, ys, i, w, rfl, rfl, .of hq, e1, k ρ H _ .refl R e2⟩) hs
      · cases q
    · cases q
  · cases q
end
end ZS
set_option linter.all false
set_option maxRecDepth 100000
set_option maxHeartbeats 4000000
namespace ZS
open PySem PySem.Spec PyProof.Rows L2
variable [R0]
section
variable {X : Cx} {sub : Nat → Nat → Bool} {Γ : Z.Gam} {E : Z.PX}
theorem sIxE (n d : Nat) (o : Option Int) : HT.sIx n d o = Z.sIx n d o := by
  cases o with
  | none => rfl
  | some v =>
    unfold HT.sIx Z.sIx
    dsimp only
    split <;> omega
theorem srange_eq (a b : Nat) : sliceRange (a : Int) (b : Int) 1 = (List.range (b - a)).map fun m => a + m := by
  unfold sliceRange
  have e : (if (1 : Int) > 0 then (if (a : Int) < b then ((b : Int) - a + 1 - 1) / 1 else 0) else (if (a : Int) > b then ((a : Int) - b - 1 - 1) / (-1) else 0)).toNat = b - a := by
    rw [if_pos (by decide)]
    split
    · rw [Int.ediv_one]; omega
    · omega
  show List.map _ (List.range (Int.toNat _)) = _
  rw [e]
  apply List.map_congr_left
  intro m _
  omega
theorem idx_eq (lo hi : Option Int) (n : Nat) : Builtin.Str.strSliceIndices lo hi 1 n = (List.range (Z.sIx n n hi - Z.sIx n 0 lo)).map fun m => Z.sIx n 0 lo + m := by
  rw [← srange_eq]
  unfold Builtin.Str.strSliceIndices
  dsimp only
  congr 1
  · cases lo with
    | none => simp [Z.sIx]
    | some v =>
      simp only [Z.sIx]
      rw [if_pos (by decide)]
      split <;> omega
  · cases hi with
    | none => simp [Z.sIx]
    | some v =>
      simp only [Z.sIx]
      rw [if_pos (by decide)]
      split <;> omega
theorem pick_eq {α : Type} : ∀ (k i : Nat) (s : List α), ((List.range k).map fun m => i + m).filterMap (fun j => s[j]?) = (s.drop i).take k
  | 0, i, s => by simp
  | k + 1, i, s => by
    rw [List.range_succ, List.map_append, List.filterMap_append, pick_eq k i s, List.take_succ]
    congr 1
    simp only [List.map_cons, List.map_nil, List.filterMap_cons, List.filterMap_nil]
    rw [List.getElem?_drop]
    cases s[i + k]? <;> rfl
theorem cut_eq (s : List Nat) (lo hi : Option Int) : ((Builtin.Str.strSliceIndices lo hi 1 s.length).filterMap fun i => s[i]?) = Z.cut s lo hi := by
  rw [idx_eq, pick_eq]; rfl
theorem cut_le {α : Type} (s : List α) (lo hi : Option Int) : (Z.cut s lo hi).length ≤ s.length := by
  unfold Z.cut
  rw [List.length_take, List.length_drop]
  omega
theorem sIx_le (n d : Nat) (hd : d ≤ n) (o : Option Int) : Z.sIx n d o ≤ n := by
  rw [← sIxE]; exact HT.sIx_le n d hd o
theorem cut_full {α : Type} (s : List α) (lo hi : Option Int) (h : Z.sIx s.length s.length hi - Z.sIx s.length 0 lo = s.length) : Z.cut s lo hi = s := by
  have h1 := sIx_le s.length s.length (Nat.le_refl _) hi
  unfold Z.cut
  by_cases h0 : Z.sIx s.length 0 lo = 0
  · rw [h, h0, List.drop_zero, List.take_length]
  · have : s.length = 0 := by omega
    rw [List.length_eq_zero_iff.mp this]; simp
theorem sl_str : SlR X (fun x lo hi H Q => ∃ z : List Nat, x = .str ⟨z.toArray⟩ ∧ z.length ≤ Z.lim ∧ Q (.str ⟨(Z.cut z lo hi).toArray⟩) H) := by
  intro pins s σ H x v vl vu lo hi sl Q I rx hs pl pu h
  obtain ⟨z, rfl, hz, q⟩ := h
  obtain ⟨t, rfl⟩ := rx
  refine ⟨"str", _, F.slot_str_getitem.lookup, typeIs_str s _ t, ?_⟩
  obtain ⟨l', e1, e2⟩ : ∃ l' : Option (Int × Tok), vl = partValue l' ∧ l'.map (·.1) = lo := by
    cases pl with
    | none => exact ⟨none, rfl, rfl⟩
    | int i t => exact ⟨some (i, t), rfl, rfl⟩
  obtain ⟨u', e3, e4⟩ : ∃ l' : Option (Int × Tok), vu = partValue l' ∧ l'.map (·.1) = hi := by
    cases pu with
    | none => exact ⟨none, rfl, rfl⟩
    | int i t => exact ⟨some (i, t), rfl, rfl⟩
  subst e1 e3
  refine wpAny_getItem_str_slice (l := l') (u := u') (st := none) hs rfl ?_
  have hp : slicePicked ⟨z.toArray⟩ l' u' none = Builtin.Str.strSliceIndices lo hi 1 z.length := by
    unfold slicePicked
    rw [e2, e4, strLen]
    rfl
  have hc : ((slicePicked ⟨z.toArray⟩ l' u' none).filterMap ((⟨z.toArray⟩ : Str).cps[·]?)) = Z.cut z lo hi := by
    rw [hp, ← cut_eq]
    congr 1
    funext i
    simp
  unfold sliceMade
  split
  · rename_i hw
    have hl : (slicePicked ⟨z.toArray⟩ l' u' none).length = z.length := by
      rw [Bool.and_eq_true] at hw
      have := beq_iff_eq.mp hw.2
      rw [this, strLen]
    have hz : Z.cut z lo hi = z := by
      rw [hp, idx_eq, List.length_map, List.length_range] at hl
      exact cut_full z lo hi hl
    show EP X pins σ Q (.str ⟨z.toArray⟩ t) s
    exact ⟨.str ⟨z.toArray⟩, H, I, ⟨t, rfl⟩, by rw [hz] at q; exact q⟩
  · rw [hc]
    refine ⟨by rw [strLen, ← limE]; exact Nat.le_trans (cut_le z lo hi) hz, .str ⟨(Z.cut z lo hi).toArray⟩, H, I.tok _, ⟨_, rfl⟩, q⟩
noncomputable def rPs (K : PySem.W.Frag) (x : V) (lo hi : Option Int) (H : Hp) (Q : VK) : Prop := ∃ ρ h d e h', Rep K ρ h H ∧ RelD K ρ H d x ∧ Z.pSlice d lo hi h = some (e, h') ∧
  ∀ ρ' H' v, Ext K ρ H ρ' H' → Rep K ρ' h' H' → RelD K ρ' H' e v → Q v H'
theorem cut_rel {K : PySem.W.Frag} {ρ : List Addr} {H : Hp} {xs : List Z.D} {ys : List V} {lo hi : Option Int} (r : RelDs K ρ H xs ys) : RelDs K ρ H (Z.cut xs lo hi) (cutV ys lo hi) := by
  unfold Z.cut cutV
  rw [sIxE, sIxE, ← r.length]
  exact (r.drop _).take _
theorem sl_all : SlR X (rPs X.K) := SlRw (sl_str.or (sl_tup.or sl_list)) (by
  rintro x lo hi H Q ⟨ρ, h, d, e, h', R, r, q, k⟩
  unfold Z.pSlice at q
  split at q
  · cases q
    simp only [RelD] at r
    obtain ⟨rfl, hl⟩ := r
    refine .inl ⟨_, rfl, hl, k ρ H _ .refl R ?_⟩
    unfold RelD
    exact ⟨rfl, Nat.le_trans (cut_le _ lo hi) hl⟩
  · rename_i xs
    split at q
    · cases q
    · rename_i hw
      cases q
      simp only [RelD] at r
      obtain ⟨a, ys, rfl, hq, rs⟩ := r
      refine .inr (.inl ⟨a, ys, rfl, hq, by rw [← rs.length, sIxE, sIxE]; exact hw, fun p hp => ?_⟩)
      have e2 : Ext X.K ρ H ρ (upd H p (.tup (cutV ys lo hi))) := Ext.fresh hp
      exact k ρ _ _ e2 (R.fresh hp) (by simp only [RelD]; exact ⟨p, _, rfl, .of upd_same, RelDs.mono e2 _ _ (cut_rel rs)⟩)
  · obtain ⟨hl, rfl, rfl⟩ := newL_inv q
    simp only [RelD] at r
    obtain ⟨a, ys, rfl, hq, rs⟩ := r
    refine .inr (.inr ⟨a, ys, rfl, hq.sqL, fun p hp => ?_⟩)
    obtain ⟨e2, R2, r2⟩ := new_list R (cut_rel rs) hp
    exact k _ _ _ e2 R2 r2
  · split at q
    · rename_i e1
      obtain ⟨hl, rfl, rfl⟩ := newL_inv q
      obtain ⟨a, ys, rfl, _, hq, rs⟩ := lstAt R r e1
      refine .inr (.inr ⟨a, ys, rfl, .of hq, fun p hp => ?_⟩)
      obtain ⟨e2, R2, r2⟩ := new_list R (cut_rel rs) hp
      exact k _ _ _ e2 R2 r2
    · cases q
  · cases q)
theorem le_slL {a b : Expr} {a' b' : Z.Ex} {p pos : Pos} (ha : LE X sub Γ E a a') (hb : LE X sub Γ E b b') : LE X sub Γ E (.Subscript a (.Slice (some b) none none p) pos) (.prim .slL (.cons a' (.cons b' .nil))) := by
  refine PEw (pe_slice sl_all ha (po_some hb) po_none) ?_
  rintro σ H Q ⟨ρ, h, τ, Q', R, L, w, k⟩
  simp only [Z.wpE, Z.wpEs] at w
  refine ⟨ρ, h, τ, _, R, L, w, fun d1 h1 ρ1 H1 x e1 R1 r1 w1 => ⟨ρ1, h1, τ, _, R1, L.mono e1, w1, fun d2 h2 ρ2 H2 y e2 R2 r2 w2 => ?_⟩⟩
  cases d2 with
  | int i =>
    simp only [RelD] at r2
    refine ⟨i, r2, ?_⟩
    change (match Z.pSlice d1 (some i) none h2 with | some (v, h2) => Q' v h2 | none => False) at w2
    cases q : Z.pSlice d1 (some i) none h2 with
    | none => rw [q] at w2; exact w2.elim
    | some z => rw [q] at w2; exact ⟨ρ2, h2, d1, z.1, z.2, R2, RelD.mono e2 _ _ r1, q, fun ρ' H' v e' R' r' => k _ _ ρ' H' v (e1.trans (e2.trans e')) R' r' w2⟩
  | _ => exact w2.elim
theorem le_slH {a b : Expr} {a' b' : Z.Ex} {p pos : Pos} (ha : LE X sub Γ E a a') (hb : LE X sub Γ E b b') : LE X sub Γ E (.Subscript a (.Slice none (some b) none p) pos) (.prim .slH (.cons a' (.cons b' .nil))) := by
  refine PEw (pe_slice sl_all ha po_none (po_some hb)) ?_
  rintro σ H Q ⟨ρ, h, τ, Q', R, L, w, k⟩
  simp only [Z.wpE, Z.wpEs] at w
  refine ⟨ρ, h, τ, _, R, L, w, fun d1 h1 ρ1 H1 x e1 R1 r1 w1 => ⟨ρ1, h1, τ, _, R1, L.mono e1, w1, fun d2 h2 ρ2 H2 y e2 R2 r2 w2 => ?_⟩⟩
  cases d2 with
  | int i =>
    simp only [RelD] at r2
    refine ⟨i, r2, ?_⟩
    change (match Z.pSlice d1 none (some i) h2 with | some (v, h2) => Q' v h2 | none => False) at w2
    cases q : Z.pSlice d1 none (some i) h2 with
    | none => rw [q] at w2; exact w2.elim
    | some z => rw [q] at w2; exact ⟨ρ2, h2, d1, z.1, z.2, R2, RelD.mono e2 _ _ r1, q, fun ρ' H' v e' R' r' => k _ _ ρ' H' v (e1.trans (e2.trans e')) R' r' w2⟩
  | _ => exact w2.elim
theorem le_slLH {a b c : Expr} {a' b' c' : Z.Ex} {p pos : Pos} (ha : LE X sub Γ E a a') (hb : LE X sub Γ E b b') (hc : LE X sub Γ E c c') : LE X sub Γ E (.Subscript a (.Slice (some b) (some c) none p) pos) (.slc a' b' c') := by
  refine PEw (pe_slice sl_all ha (po_some hb) (po_some hc)) ?_
  rintro σ H Q ⟨ρ, h, τ, Q', R, L, w, k⟩
  simp only [Z.wpE] at w
  refine ⟨ρ, h, τ, _, R, L, w, fun d1 h1 ρ1 H1 x e1 R1 r1 w1 => ⟨ρ1, h1, τ, _, R1, L.mono e1, w1, fun d2 h2 ρ2 H2 y e2 R2 r2 w2 => ?_⟩⟩
  cases d2 with
  | int i =>
    simp only [RelD] at r2
    refine ⟨i, r2, ρ2, h2, τ, _, R2, L.mono (e1.trans e2), w2, fun d3 h3 ρ3 H3 z e3 R3 r3 w3 => ?_⟩
    cases d3 with
    | int j =>
      simp only [RelD] at r3
      refine ⟨j, r3, ?_⟩
      dsimp only at w3
      cases q : Z.pSlice d1 (some i) (some j) h3 with
      | none => rw [q] at w3; exact w3.elim
      | some z => rw [q] at w3; exact ⟨ρ3, h3, d1, z.1, z.2, R3, RelD.mono (e2.trans e3) _ _ r1, q, fun ρ' H' v e' R' r' => k _ _ ρ' H' v (e1.trans (e2.trans (e3.trans e'))) R' r' w3⟩
    | _ => exact w3.elim
  | _ => exact w2.elim
end
end ZS
set_option linter.all false
set_option maxRecDepth 100000
set_option maxHeartbeats 4000000
namespace ZS
open PySem PySem.Spec PyProof.Rows L2
variable [R0]
section
variable {X : Cx} {sub : Nat → Nat → Bool} {Γ : Z.Gam} {E : Z.PX}
theorem c_len : CallR X (.builtin "len") (rP X.K sub .len) := CallRw (call_len.or call_lenD) (by
  rintro xs H Q ⟨ρ, h, ds, d, h', R, r, q, k⟩
  change Z.pLen _ _ = _ at q
  unfold Z.pLen at q
  split at q
  · cases q
    obtain ⟨x, xs, rfl⟩ : ∃ x t, xs = x :: t := by simp only [RelDs] at r; obtain ⟨y, t, e, _⟩ := r; exact ⟨y, t, e⟩
    simp only [RelDs] at r
    obtain ⟨y, t, e, r, rfl⟩ := r
    cases e
    simp only [RelD] at r
    obtain ⟨rfl, hl⟩ := r
    exact .inl ⟨_, _, rfl, ⟨by rw [strLen, ← limE]; exact hl, rfl⟩, by rw [strLen]; exact k ρ H _ .refl R (by simp only [RelD])⟩
  · cases q
    simp only [RelDs] at r
    obtain ⟨y, t, rfl, r, rfl⟩ := r
    simp only [RelD] at r
    obtain ⟨a, ys, rfl, hq, rs⟩ := r
    exact .inl ⟨_, _, rfl, .inr ⟨ys, hq, rfl⟩, by rw [← rs.length]; exact k ρ H _ .refl R (by simp only [RelD])⟩
  · cases q
    simp only [RelDs] at r
    obtain ⟨y, t, rfl, r, rfl⟩ := r
    simp only [RelD] at r
    obtain ⟨a, ys, rfl, hq, rs⟩ := r
    exact .inl ⟨_, _, rfl, .inl ⟨ys, hq.sqL, rfl⟩, by rw [← rs.length]; exact k ρ H _ .refl R (by simp only [RelD])⟩
  · rename_i n
    simp only [RelDs] at r
    obtain ⟨y, t, rfl, r, rfl⟩ := r
    split at q
    · rename_i e1
      cases q
      obtain ⟨a, ys, rfl, _, hq, rs⟩ := lstAt R r e1
      exact .inl ⟨_, _, rfl, .inl ⟨ys, .of hq, rfl⟩, by rw [← rs.length]; exact k ρ H _ .refl R (by simp only [RelD])⟩
    · rename_i e1
      cases q
      obtain ⟨a, kvs, rfl, _, hq, hk, rs, _⟩ := dctAt R r e1
      have := rs.length
      rw [List.length_map, List.length_map] at this
      exact .inr ⟨_, _, rfl, hq, by rw [← this]; exact k ρ H _ .refl R (by simp only [RelD])⟩
    · cases q
  · cases q)
theorem c_max (hc : X.calm = true) : CallR X (.builtin "max") (rP X.K sub .max2) := CallRw (call_max2 hc) (by
  rintro xs H Q ⟨ρ, h, ds, d, h', R, r, q, k⟩
  change Z.pInt2 _ _ _ = _ at q
  unfold Z.pInt2 at q
  split at q
  · cases q
    simp only [RelDs, RelD] at r
    obtain ⟨_, _, rfl, rfl, _, _, rfl, rfl, rfl⟩ := r
    exact ⟨_, _, rfl, k ρ H _ .refl R (by simp only [RelD])⟩
  · cases q)
theorem m_append : MtR X "list.append" (fun x xs => rP X.K sub .append (x :: xs)) := MtRw mt_append (by
  rintro x xs H Q ⟨ρ, h, ds, d, h', R, r, q, k⟩
  change Z.pApp _ _ = _ at q
  unfold Z.pApp at q
  split at q
  · split at q
    · rename_i e1
      simp only [RelDs] at r
      obtain ⟨_, _, e, r1, y, _, rfl, r2, rfl⟩ := r
      cases e
      obtain ⟨a, ys, rfl, hn, ha, rs⟩ := lstAt R r1 e1
      obtain ⟨hl, rfl, rfl⟩ := setL_inv q
      rw [List.length_append, List.length_singleton] at hl
      obtain ⟨e2, R2⟩ := set_list' (xs := []) R hn ha (rs.append (.one r2))
      exact ⟨a, ys, y, rfl, rfl, ha, by rw [← rs.length, ← limE]; omega, k _ _ _ e2 R2 (by simp only [RelD])⟩
    · cases q
  · cases q)
theorem m_pop : MtR X "list.pop" (fun x xs => rP X.K sub .pop (x :: xs)) := MtRw mt_pop (by
  rintro x xs H Q ⟨ρ, h, ds, d, h', R, r, q, k⟩
  change Z.pPop _ _ = _ at q
  unfold Z.pPop at q
  split at q
  · split at q
    · rename_i e1
      simp only [RelDs] at r
      obtain ⟨_, _, e, r1, rfl⟩ := r
      cases e
      obtain ⟨a, ys, rfl, hn, ha, rs⟩ := lstAt R r1 e1
      split at q
      · rename_i v ev
        cases q
        rw [List.getLast?_eq_getElem?] at ev
        obtain ⟨y, ey, ry⟩ := rs.get ev
        obtain ⟨e2, R2⟩ := set_list' (xs := []) R hn ha rs.dropLast
        exact ⟨a, ys, y, rfl, rfl, ha, by rw [← rs.length]; exact ey, k _ _ _ e2 R2 (RelD.mono e2 _ _ ry)⟩
      · cases q
    · cases q
  · cases q)
open AutoSeq1 in
end
end ZS
set_option linter.all false
set_option maxRecDepth 100000
set_option maxHeartbeats 4000000
namespace ZS
open PySem PySem.Spec PyProof.Rows L2
variable [R0]
section
variable {X : Cx} {sub : Nat → Nat → Bool} {Γ : Z.Gam} {E : Z.PX}
noncomputable def KNn : Z.KN → String
  | .int => "int" | .bool => "bool" | .str => "str" | .list => "list" | .tuple => "tuple" | .cls _ => "?"
noncomputable def KNb : Z.KN → String → Bool
  | .int, "int" => true | .int, "bool" => true | .bool, "bool" => true | .str, "str" => true | .list, "list" => true | .tuple, "tuple" => true | _, _ => false
theorem kitB {K : PySem.W.Frag} (k : Z.KN) (hk : ∀ c, k ≠ .cls c) (t : String) (ht : t ∈ ["NoneType", "bool", "int", "str", "list", "tuple", "dict"]) : PySem.W.kitOne K (.type t) (.type (KNn k)) = some (KNb k t) := by
  simp only [List.mem_cons, List.not_mem_nil, or_false] at ht
  cases k with
  | cls c => exact absurd rfl (hk c)
  | _ => rcases ht with rfl | rfl | rfl | rfl | rfl | rfl | rfl <;> kernel_rfl
theorem c_isi (k : Z.KN) (hk : ∀ c, k ≠ .cls c) : CallR X (.builtin "isinstance") (fun xs H Q => ∃ x, xs = [x, .ty (KNn k)] ∧ rP X.K sub (.isi k) [x] H Q) := by
  intro pins s σ H xs us Q I r ⟨x, e, ρ, h, ds, d, h', R, rr, q, kk⟩
  subst e
  obtain ⟨u, w', rfl, rx, rt⟩ := vals2 r
  cases (show w' = Value.type (KNn k) from rt)
  obtain ⟨d1, rfl, r1⟩ := rel1' rr
  change Z.pIsi sub k [d1] h = some (d, h') at q
  unfold Z.pIsi at q
  cases e : Z.isiB h sub k d1 with
  | none => simp only [e] at q; cases q
  | some b =>
    simp only [e] at q
    cases q
    have fin : ∀ tk, EP X pins σ Q (.bool b) { s with toks := tk } := fun tk => ⟨.bl b, H, I.tok _, rfl, kk ρ H _ .refl R (by simp only [RelD])⟩
    cases d1 with
    | non =>
      simp only [RelD] at r1; subst r1; cases rx
      have hb : b = KNb k "NoneType" := by cases k <;> first | (simp [Z.isiB] at e; subst e; rfl) | exact absurd rfl (hk _)
      exact PySem.W.kia_one PySem.W.kitx_none I.kIn True.intro (hb ▸ kitB k hk "NoneType" (by simp)) (fun z => nomatch z) fin
    | bl c =>
      simp only [RelD] at r1; subst r1; cases rx
      have hb : b = KNb k "bool" := by cases k <;> first | (simp [Z.isiB] at e; subst e; rfl) | exact absurd rfl (hk _)
      exact PySem.W.kia_one PySem.W.kitx_bool I.kIn True.intro (hb ▸ kitB k hk "bool" (by simp)) (fun z => nomatch z) fin
    | int i =>
      simp only [RelD] at r1; subst r1; obtain ⟨t, rfl⟩ := rx
      have hb : b = KNb k "int" := by cases k <;> first | (simp [Z.isiB] at e; subst e; rfl) | exact absurd rfl (hk _)
      exact PySem.W.kia_one PySem.W.kitx_int I.kIn True.intro (hb ▸ kitB k hk "int" (by simp)) (fun z => nomatch z) fin
    | str i =>
      simp only [RelD] at r1; obtain ⟨rfl, _⟩ := r1; obtain ⟨t, rfl⟩ := rx
      have hb : b = KNb k "str" := by cases k <;> first | (simp [Z.isiB] at e; subst e; rfl) | exact absurd rfl (hk _)
      exact PySem.W.kia_one PySem.W.kitx_str I.kIn True.intro (hb ▸ kitB k hk "str" (by simp)) (fun z => nomatch z) fin
    | tup xs =>
      simp only [RelD] at r1; obtain ⟨a, ys, rfl, hq, _⟩ := r1; cases rx
      obtain ⟨its, _, ⟨o, h1, h2, _⟩, _⟩ := I.tuple hq
      have hb : b = KNb k "tuple" := by cases k <;> first | (simp [Z.isiB] at e; subst e; rfl) | exact absurd rfl (hk _)
      exact PySem.W.kia_one PySem.W.kitx_tuple I.kIn ⟨o, h1, h2⟩ (hb ▸ kitB k hk "tuple" (by simp)) (fun z => nomatch z) fin
    | rol xs =>
      simp only [RelD] at r1; obtain ⟨a, ys, rfl, hq, _⟩ := r1; cases rx
      obtain ⟨its, _, ⟨o, n, h1, h2, _⟩, _⟩ := I.list hq.sqL
      have hb : b = KNb k "list" := by cases k <;> first | (simp [Z.isiB] at e; subst e; rfl) | exact absurd rfl (hk _)
      exact PySem.W.kia_one PySem.W.kitx_list I.kIn ⟨o, h1, h2⟩ (hb ▸ kitB k hk "list" (by simp)) (fun z => nomatch z) fin
    | ref n =>
      cases eo : h[n]? with
      | none => cases k <;> first | (simp [Z.isiB, eo] at e; done) | exact absurd rfl (hk _)
      | some o =>
        cases o with
        | lst xs =>
          obtain ⟨a, ys, rfl, _, ha, _⟩ := lstAt R r1 eo
          cases rx
          obtain ⟨its, _, ⟨o, n, h1, h2, _⟩, _⟩ := I.list (.of ha)
          have hb : b = KNb k "list" := by cases k <;> first | (simp [Z.isiB, eo] at e; subst e; rfl) | exact absurd rfl (hk _)
          exact PySem.W.kia_one PySem.W.kitx_list I.kIn ⟨o, h1, h2⟩ (hb ▸ kitB k hk "list" (by simp)) (fun z => nomatch z) fin
        | dct xs =>
          obtain ⟨a, ys, rfl, _, ha, _⟩ := dctAt R r1 eo
          cases rx
          obtain ⟨_, _, vs, _, p⟩ := (show ObjOk X.prog X.w H s.heap a (.dK ys) from I.hok a _ ha)
          obtain ⟨o, es, ep, h1, h2, _⟩ := p
          have hb : b = KNb k "dict" := by cases k <;> first | (simp [Z.isiB, eo] at e; subst e; rfl) | exact absurd rfl (hk _)
          exact PySem.W.kia_one PySem.W.kitx_dict I.kIn ⟨o, h1, h2.1⟩ (hb ▸ kitB k hk "dict" (by simp)) (fun z => nomatch z) fin
        | obj c fs =>
          cases k <;> first | (simp [Z.isiB, eo] at e; done) | exact absurd rfl (hk _)
        | exc c =>
          cases k <;> first | (simp [Z.isiB, eo] at e; done) | exact absurd rfl (hk _)
theorem le_isi {e : Expr} {e' : Z.Ex} {k : Z.KN} {tn : Str} {p p2 pos : Pos} (hk : ∀ c, k ≠ .cls c) (hg : Gl X "isinstance") (hm : X.mg "isinstance" = none) (hgt : Gl X tn) (hmt : X.mg tn = none) (hvt : bootBuiltins tn = some (.type (KNn k))) (hnn : tn ≠ "__name__") (hdd : (tn == ("__debug__" : Str)) = false)
    (he : LE X sub Γ E e e') (hs : ∀ es, starEach (e :: es) X.env = (false, eval e X.env) :: starEach es X.env) :
    LE X sub Γ E (.Call (.Name "isinstance" p) [e, .Name tn p2] [] pos) (.prim (.isi k) (.cons e' .nil)) := by
  have hn : PE X (.Name tn p2) (tC (.ty (KNn k))) := pe_bltn hgt hmt hvt rfl hnn hdd
  refine PEw (pe_callB (c_isi (sub := sub) k hk) hg hm (by rfl) (pa_cons he (pa_cons hn pa_nil (by rfl)) (hs _)) (by decide) (by decide) (hs _) (by rfl)) ?_
  rintro σ H Q ⟨ρ, h, τ, Q', R, L, w, k'⟩
  simp only [Z.wpE, Z.wpEs] at w
  refine ⟨ρ, h, τ, _, R, L, w, fun d1 h1 ρ1 H1 x e1 R1 r1 w1 => ?_⟩
  cases q : Z.prim sub (.isi k) [d1] h1 with
  | none => rw [q] at w1; exact w1.elim
  | some z =>
    rw [q] at w1
    exact ⟨x, rfl, ρ1, h1, [d1], z.1, z.2, R1, .one r1, q, fun ρ' H' v e' R' r' => k' _ _ ρ' H' v (e1.trans e') R' r' w1⟩
noncomputable def spUp (K : PySem.W.Frag) (Γ : Z.Gam) (f : Nat) : Sp := fun vs H Q _ => ∃ ρ h ds Q', ∃ E' : Z.PX, Rep K ρ h H ∧ RelDs K ρ H ds vs ∧ Γ f ds h Q' (Z.EF E') ∧
  ∀ d h' ρ' H' v, Ext K ρ H ρ' H' → Rep K ρ' h' H' → RelD K ρ' H' d v → Q' d h' → Q v H'
theorem le_call {CX : CXT} {k i : Nat} {f : Addr} {fd : FuncData} {ps : List Str} {x : Str} {e : Expr} {es : List Expr} {es' : Z.Exs} {dvs : List V} {ds : List Value} {dd : List Z.D} {p pos : Pos} {E0 : XK}
    (F : FnOk X.prog X.w X.K X.mg X.base CX k f fd ps (spUp X.K Γ i)) (hr : Room k X.A) (hg : Gl X x) (hm : X.mg x = some (.ref f)) (hk : PySem.W.keepIn X.K (.ref f) = true) (hb : Binds X.K fd ps ds) (hd : Vals dvs ds) (hx : Passes CX X E0) (hdd : ∀ ρ H, RelDs X.K ρ H dd dvs)
    (ha : LA X sub Γ E (e :: es) es') (hdb : (x == ("__debug__" : Str)) = false) (he : starEach (e :: es) X.env = (false, eval e X.env) :: starEach es X.env) (hpl : (backTo pos (starEach es X.env)).any (·.1) = false) :
    LE X sub Γ E (.Call (.Name x p) (e :: es) [] pos) (.call i es' dd) := by
  refine PEw (pe_call F hr hg hm hk hb hd hx ha hdb he hpl) ?_
  rintro σ H Q ⟨ρ, h, τ, Q', R, L, w, k'⟩
  simp only [Z.wpE] at w
  refine ⟨ρ, h, τ, _, R, L, w, fun ds1 h1 ρ1 H1 vs e1 R1 r1 w1 => ?_⟩
  exact ⟨ρ1, h1, ds1 ++ dd, Q', E, R1, r1.append (hdd _ _), w1, fun d h' ρ' H' v e' R' r' q => k' d h' ρ' H' v (e1.trans e') R' r' q⟩
end
end ZS
set_option linter.all false
set_option maxRecDepth 100000
set_option maxHeartbeats 4000000
namespace ZS
open PySem PySem.Spec PyProof.Rows L2
variable [R0]
section
variable {X : Cx} {sub : Nat → Nat → Bool}
end
end ZS
set_option linter.all false
set_option maxRecDepth 100000
set_option maxHeartbeats 4000000
namespace ZS
open PySem PySem.Spec PyProof.Rows L2
variable [R0]
noncomputable def PTs (X : Cx) (ifs : List Expr) (t : TT) : Prop :=
  ∀ (pins : List (Addr × Obj)) (s : Shared) (σ : L2.St) (H : Hp) (Q : Bool → Hp → Prop), Inv X pins σ H s → t σ H Q →
    wpAny (model X.prog X.w) X.A (forIn ifs true fun c r => if r = true then do let ok ← isTrue c X.env (eval c X.env); pure (ForInStep.yield ok) else pure (ForInStep.yield r)) (TP X pins σ Q) X.xe s
section
variable {X : Cx}
end
end ZS
set_option linter.all false
set_option maxRecDepth 100000
set_option maxHeartbeats 4000000
namespace ZS
open PySem PySem.Spec PyProof.Rows L2
variable [R0]
section
variable {X : Cx} {sub : Nat → Nat → Bool} {Γ : Z.Gam} {E : Z.PX}
end
end ZS
set_option linter.all false
set_option maxRecDepth 100000
set_option maxHeartbeats 4000000
namespace ZS
open PySem PySem.Spec PyProof.Rows L2
section
variable [R0]
section
variable {X : Cx} {sub : Nat → Nat → Bool} {Γ : Z.Gam} {E : Z.PX}
theorem zv (i : Nat) {x : Str} {pos : Pos} (hN : X.N[i]? = some x := by rfl) (hv : Vis X.env.scope x := by first | exact Or.inl rfl | exact Or.inr (Or.inl rfl) | exact Or.inr (Or.inr rfl)) (hd : (x == ("__debug__" : Str)) = false := by decide)
    (hcd : (x == ("__classdict__" : Str)) = false := by decide) : LE X sub Γ E (.Name x pos) (.var i) := le_var hN hv hd hcd
theorem zi {n : Int} {k : Nat} {pos : Pos} : LE X sub Γ E (.Constant (.int n) k pos) (.lit (.int n)) := le_lit pe_int fun _ _ => by simp only [RelD]
theorem zb {b : Bool} {k : Nat} {pos : Pos} : LE X sub Γ E (.Constant (.bool b) k pos) (.lit (.bl b)) := le_lit pe_bl fun _ _ => by simp only [RelD]
theorem zn {k : Nat} {pos : Pos} : LE X sub Γ E (.Constant .none k pos) (.lit .non) := le_lit pe_non fun _ _ => by simp only [RelD]
theorem zs {s : Str} {l : List Nat} {k : Nat} {pos : Pos} (h : s = ⟨l.toArray⟩) (hl : l.length ≤ Z.lim) : LE X sub Γ E (.Constant (.str s) k pos) (.lit (.str l)) := le_lit pe_str fun _ _ => by simp only [RelD]; exact ⟨congrArg V.str h, hl⟩
theorem zu {k : Nat} (hr : Room k X.A) : X.A.units + 200 < cLine := by have := hr.un; omega
theorem zix {k : Nat} {a b : Expr} {a' b' : Z.Ex} {pos : Pos} (hr : Room k X.A) (ha : LE X sub Γ E a a') (hb : LE X sub Γ E b b') (hs : PlainIx b := by intro _ _; rfl) : LE X sub Γ E (.Subscript a b pos) (.prim .idx (.cons a' (.cons b' .nil))) := le_ix (i_idx (zu hr)) ha hb hs
theorem zargs {e : Expr} {es : List Expr} {e' : Z.Ex} {es' : Z.Exs} (he : LE X sub Γ E e e') (hes : LA X sub Γ E es es') (hs : starEach (e :: es) X.env = (false, eval e X.env) :: starEach es X.env := by rfl) : LA X sub Γ E (e :: es) (.cons e' es') := la_cons he hes hs
theorem zcallB {x : Str} {id : String} {e : Expr} {es : List Expr} {es' : Z.Exs} {p : Z.Prim} {q pos : Pos} (hc : CallR X (.builtin id) (rP X.K sub p)) (hm : X.mg x = none) (hv : bootBuiltins x = some (.builtin id)) (ha : LA X sub Γ E (e :: es) es')
    (hg : Gl X x := by rfl) (hn : x ≠ "__name__" := by decide) (hdb : (x == ("__debug__" : Str)) = false := by decide) (he : starEach (e :: es) X.env = (false, eval e X.env) :: starEach es X.env := by rfl) (hpl : (backTo pos (starEach es X.env)).any (·.1) = false := by rfl) :
    LE X sub Γ E (.Call (.Name x q) (e :: es) [] pos) (.prim p es') := le_callB hc hg hm hv ha hn hdb he hpl
theorem zisi {e : Expr} {e' : Z.Ex} {k : Z.KN} {tn : Str} {p p2 pos : Pos} (hm : X.mg "isinstance" = none) (hmt : X.mg tn = none) (hvt : bootBuiltins tn = some (.type (KNn k))) (he : LE X sub Γ E e e')
    (hk : ∀ c, k ≠ .cls c := by intro _ z; cases z) (hg : Gl X "isinstance" := by rfl) (hgt : Gl X tn := by rfl) (hnn : tn ≠ "__name__" := by decide) (hdd : (tn == ("__debug__" : Str)) = false := by decide)
    (hs : ∀ es, starEach (e :: es) X.env = (false, eval e X.env) :: starEach es X.env := by intro _; rfl) :
    LE X sub Γ E (.Call (.Name "isinstance" p) [e, .Name tn p2] [] pos) (.prim (.isi k) (.cons e' .nil)) := le_isi hk hg hm hgt hmt hvt hnn hdd he hs
theorem zmth {o e : Expr} {es : List Expr} {o' : Z.Ex} {es' : Z.Exs} {m : Z.MK} {p : Z.Prim} {name : Str} {apos cpos : Pos} {id : String} (pa : PlainAttrs (MKn m)) (slot : Slot (MKn m) name id) (hty : typeOf (.builtin id) = pure (.type "method_descriptor"))
    (hm : MtR X id (fun x xs => rP X.K sub p (x :: xs))) (ho : LE X sub Γ E o o') (ha : LA X sub Γ E (e :: es) es') (hmk : m ≠ .dict := by decide) (hmt : m ≠ .tuple := by decide) (hbase : attributeBase o name X.env (eval o X.env) = eval o X.env := by rfl)
    (hfew : ((backTo cpos (starEach (e :: es) X.env)).all (fun x => !x.1) && (backToKw cpos (keywordEach [] X.env)).all (fun x => x.1.isSome)
      && decide ((e :: es).length + ([] : List Keyword).length + (if ([] : List Keyword).isEmpty then 0 else 1) < 30)) = true := by rfl)
    (hline : (apos.endLine == cpos.line) = true := by rfl) (hs : starEach (e :: es) X.env = (false, eval e X.env) :: starEach es X.env := by rfl) (hplain : (backTo cpos (starEach es X.env)).any (·.1) = false := by rfl) :
    LE X sub Γ E (.Call (.Attribute o name apos) (e :: es) [] cpos) (.mth m p o' es') := le_mth hmk hmt pa slot hty hm ho ha hbase hfew hline hs hplain
theorem zmth0 {o : Expr} {o' : Z.Ex} {m : Z.MK} {p : Z.Prim} {name : Str} {apos cpos : Pos} {id : String} (pa : PlainAttrs (MKn m)) (slot : Slot (MKn m) name id) (hty : typeOf (.builtin id) = pure (.type "method_descriptor"))
    (hm : MtR X id (fun x xs => rP X.K sub p (x :: xs))) (ho : LE X sub Γ E o o') (hmk : m ≠ .dict := by decide) (hmt : m ≠ .tuple := by decide) (hbase : attributeBase o name X.env (eval o X.env) = eval o X.env := by rfl) (hline : (apos.endLine == cpos.line) = true := by rfl) :
    LE X sub Γ E (.Call (.Attribute o name apos) [] [] cpos) (.mth m p o' .nil) := le_mth0 hmk hmt pa slot hty hm ho hbase hline
theorem zcall {k i : Nat} {f : Addr} {fd : FuncData} {ps : List Str} {x : Str} {e : Expr} {es : List Expr} {es' : Z.Exs} {p pos : Pos} (hr : Room k X.A)
    (F : FnOk X.prog X.w X.K X.mg X.base CX0 k f fd ps (spUp X.K Γ i)) (hm : X.mg x = some (.ref f)) (hk : PySem.W.keepIn X.K (.ref f) = true) (hb : Binds X.K fd ps [])
    (ha : LA X sub Γ E (e :: es) es') (hg : Gl X x := by rfl) (hdb : (x == ("__debug__" : Str)) = false := by decide) (he : starEach (e :: es) X.env = (false, eval e X.env) :: starEach es X.env := by rfl) (hpl : (backTo pos (starEach es X.env)).any (·.1) = false := by rfl) :
    LE X sub Γ E (.Call (.Name x p) (e :: es) [] pos) (.call i es' []) := le_call F hr hg hm hk hb .nil pass0 (fun _ _ => by simp only [RelDs]) ha hdb he hpl
theorem ztru {a : Expr} {a' : Z.Ex} (ha : LE X sub Γ E a a') (he : ∀ whole, isTrue a X.env whole = (do let v ← whole; standAt a.pos; holding [v] (truthy v)) := by intro _; rfl) : LT X sub Γ E a (.tru a') := lt_tru ha he
theorem isB_cmp {p : Z.Prim} {f : Int → Int → Bool} (hp : Z.prim sub p = Z.pCmp f) (ds : List Z.D) (h : Z.AH) (d : Z.D) (h' : Z.AH) (e : Z.prim sub p ds h = some (d, h')) : ∃ c, d = .bl c := by
  rw [hp] at e
  unfold Z.pCmp at e
  split at e
  · cases e; exact ⟨_, rfl⟩
  · cases e
theorem isB_eq {p : Z.Prim} {n : Bool} (hp : Z.prim sub p = Z.pEq n) (ds : List Z.D) (h : Z.AH) (d : Z.D) (h' : Z.AH) (e : Z.prim sub p ds h = some (d, h')) : ∃ c, d = .bl c := by
  rw [hp] at e
  unfold Z.pEq at e
  split at e
  · rename_i x y
    cases z : Z.eqH h x y with
    | none => rw [z] at e; cases e
    | some b => rw [z] at e; cases e; exact ⟨_, rfl⟩
  · cases e
theorem isB_in {p : Z.Prim} {n : Bool} (hp : Z.prim sub p = Z.pIn n) (ds : List Z.D) (h : Z.AH) (d : Z.D) (h' : Z.AH) (e : Z.prim sub p ds h = some (d, h')) : ∃ c, d = .bl c := by
  rw [hp] at e
  unfold Z.pIn at e
  split at e
  · rename_i x ys
    cases z : Z.inDs x ys with
    | none => rw [z] at e; cases e
    | some b => rw [z] at e; cases e; exact ⟨_, rfl⟩
  · rename_i x ys
    cases z : Z.inDs x ys with
    | none => rw [z] at e; cases e
    | some b => rw [z] at e; cases e; exact ⟨_, rfl⟩
  · rename_i x a
    split at e
    · rename_i ys _
      cases z : Z.inDs x ys with
      | none => rw [z] at e; cases e
      | some b => rw [z] at e; cases e; exact ⟨_, rfl⟩
    · cases z : Z.kkOf x with
      | none => rw [z] at e; cases e
      | some b => rw [z] at e; cases e; exact ⟨_, rfl⟩
    · cases e
  · cases e
theorem isB_N {p : Z.Prim} {n : Bool} (hp : Z.prim sub p = Z.pIsN n) (ds : List Z.D) (h : Z.AH) (d : Z.D) (h' : Z.AH) (e : Z.prim sub p ds h = some (d, h')) : ∃ c, d = .bl c := by
  rw [hp] at e
  unfold Z.pIsN at e
  split at e
  · cases e; exact ⟨_, rfl⟩
  · cases e; exact ⟨_, rfl⟩
  · cases e
theorem zexpr {e : Expr} {e' : Z.Ex} {pos : Pos} (he : LE X sub Γ E e e') (hs : swapsWith e none pos.line X.env = pure false := by rfl) : LS X sub Γ E (.Expr e pos) (.expr e') := ls_expr he hs
theorem zasg (i : Nat) {x : Str} {e : Expr} {e' : Z.Ex} {pos pos' : Pos} (hN : X.N.Nodup) (he : LE X sub Γ E e e') (hi : X.N[i]? = some x := by rfl) (hx : Loc X.env.scope x := by first | exact Or.inl rfl | exact Or.inr rfl) (hs : swapsWith e (some (.Name x pos')) pos.line X.env = pure false := by rfl)
    (hf : X.fn x = true ∨ X.env.scope.names.lookup x = some .local := by first | exact .inl rfl | exact .inr rfl) : LS X sub Γ E (.Assign [.Name x pos'] e pos) (.asg i e') := ls_asg hN hi hx he hs hf
theorem zpar (i j : Nat) {x y : Str} {a b : Expr} {a' b' : Z.Ex} {px py pt pos : Pos} {kt k2 : Nat} {pt2 : Pos} (hc : X.calm = true) (hN : X.N.Nodup) (ha : LA X sub Γ E [a, b] (.cons a' (.cons b' .nil))) (hi : X.N[i]? = some x := by rfl) (hj : X.N[j]? = some y := by rfl) (hij : i ≠ j := by decide)
    (hx : X.env.scope.names.lookup x = some .local := by rfl) (hy : X.env.scope.names.lookup y = some .local := by rfl)
    (hw : swappedStores [.Tuple [.Name x px, .Name y py] kt pt] (.Tuple [a, b] k2 pt2) X.env = pure (some [x, y]) := by rfl)
    (hs : swapsWithSole [.Tuple [.Name x px, .Name y py] kt pt] (.Tuple [a, b] k2 pt2) pos.line X.env = pure false := by rfl) : LS X sub Γ E (.Assign [.Tuple [.Name x px, .Name y py] kt pt] (.Tuple [a, b] k2 pt2) pos) (.unp [i, j] (.prim .mktup (.cons a' (.cons b' .nil)))) := ls_par hc hN hi hj hij hx hy ha hw hs
theorem zfor (i : Nat) {iter : Expr} {x : Str} {tpos : Pos} {kd : Z.IK} {src : Z.Exs} {body : List Stmt} {b' : Z.Sms} {pos : Pos} (hp : PassesOwn (model X.prog X.w) X.A X.env X.xe) (hc : X.calm = true) (hN : X.N.Nodup)
    (hit : LI X sub Γ E (.Name x tpos) iter kd src) (hb : LSs X sub Γ E body b') (hi : X.N[i]? = some x := by rfl) (hx : Loc X.env.scope x := by first | exact Or.inl rfl | exact Or.inr rfl) (hf : X.fn x = true ∨ X.env.scope.names.lookup x = some .local := by first | exact .inl rfl | exact .inr rfl)
    (hs : ∀ x, foldedSetIterable iter X.env x = pure x := by intro _; rfl) : LS X sub Γ E (.For (.Name x tpos) iter body [] pos) (.forr [i] kd src b') := ls_for (tg := iter) hp hc hN hi hx hf hit hb hs
theorem body_ok {body : List Stmt} {df : Z.Def} {N : List Str} {K : PySem.W.Frag} {ρ : List Addr} {h : Z.AH} {H : Hp} {ds : List Z.D} {vs : List V} {Q : VK} {Q' : Z.PV} (hK : X.K = K) (hN : N.length = df.nl) (hp : ds.length = df.np) (J : LSs X sub Γ E body df.body) (R : Rep K ρ h H) (r : RelDs K ρ H ds vs)
    (w : Z.wpSs sub Γ E df.body { nx := fun _ h => Q' .non h, rt := Q' } (ds.map some ++ List.replicate (df.nl - df.np) none) h)
    (k : ∀ d h' ρ' H' v, Ext K ρ H ρ' H' → Rep K ρ' h' H' → RelD K ρ' H' d v → Q' d h' → Q v H') :
    ∃ t, PSs X body t ∧ t { nx := fun _ H' => Q .non H', rt := Q } (L2.start N vs) H := by
  subst hK
  refine ⟨_, J, ρ, h, _, _, R, ?_, w, ⟨fun τ h' ρ' H' σ e R' L q => k _ h' ρ' H' _ e R' (by simp only [RelD]) q, k, fun _ _ _ _ _ _ _ _ q => q.elim, fun _ _ _ _ _ _ _ _ q => q.elim⟩⟩
  have hl := r.length
  refine ⟨by simp [L2.start, hl, hN, ← hp], fun i d e => ?_⟩
  unfold L2.start
  by_cases hi : i < ds.length
  · rw [List.getElem?_append_left (by simpa using hi), List.getElem?_map] at e
    rw [List.getElem?_append_left (by simpa [← hl] using hi), List.getElem?_map]
    cases q : ds[i]? with
    | none => rw [q] at e; cases e
    | some d' =>
      rw [q] at e; cases e
      obtain ⟨v, e1, e2⟩ := r.get q
      exact ⟨v, by rw [e1]; rfl, e2⟩
  · rw [List.getElem?_append_right (by simpa using hi), List.getElem?_replicate] at e
    split at e <;> cases e
end
theorem def_ok {P : Program} {w : World} {K : PySem.W.Frag} {mg : Str → Option Value} {base : Heap} {sub : Nat → Nat → Bool} {Pg : List Z.Def} {x : Str} {st : Stmt} {f : Addr} {fd : FuncData} {N ps : List Str} {k i : Nat} {df : Z.Def} (F : Fun K x x st f fd) (S : FnScope N ps (defScope st)) (hi : Pg[i]? = some df) (hN : N.length = df.nl) (hp : ps.length = df.np)
    (J : ∀ (cdv : Value) (A : Around) (outer : List Env) (s : Shared) (H : Hp) (E : XK) (E' : Z.PX), Room k (A.deeper (envOfC x (defScope st) s.heap.objs.size f cdv)) → LSs (cxOf CX0 P w K mg base N x (defScope st) f cdv A outer s H E).nox sub (Z.wpCall sub Pg k) (Z.EF E') (defBody st) df.body) :
    FnOk P w K mg base CX0 (k + 1) f fd ps (spUp K (Z.wpCall sub Pg (k + 1)) i) := by
  refine F.ok S (fun vs H Q E h => ?_) (fun cdv A outer s H vs Q E hr h => ?_)
  · obtain ⟨ρ, h, ds, Q', E', R, r, w, kk⟩ := h
    simp only [Z.wpCall, hi] at w
    rw [← r.length, hp]; exact w.1
  · obtain ⟨ρ, h, ds, Q', E', R, r, w, kk⟩ := h
    simp only [Z.wpCall, hi] at w
    exact body_ok (sub := sub) (Γ := Z.wpCall sub Pg k) (E := Z.EF E') (df := df) rfl hN w.1 (J cdv A outer s H E E' hr) R r w.2 kk
theorem def_no {P : Program} {w : World} {K : PySem.W.Frag} {mg : Str → Option Value} {base : Heap} {sub : Nat → Nat → Bool} {Pg : List Z.Def} {f : Addr} {fd : FuncData} {ps : List Str} {i : Nat} : FnOk P w K mg base CX0 0 f fd ps (spUp K (Z.wpCall sub Pg 0) i) := by
  have no : ∀ vs H Q E, ¬ spUp K (Z.wpCall sub Pg 0) i vs H Q E := fun vs H Q E h => by
    obtain ⟨ρ, h, ds, Q', E', R, r, w, kk⟩ := h
    simp only [Z.wpCall] at w
  exact ⟨fun vs H Q E h => absurd h (no vs H Q E), fun A outer s H args us vs Q E _ _ _ _ h => absurd h (no vs H Q E)⟩
theorem bt_len : bootBuiltins "len" = some (.builtin "len") := by decide +kernel
theorem bt_max : bootBuiltins "max" = some (.builtin "max") := by decide +kernel
theorem bt_tuple : bootBuiltins "tuple" = some (.type "tuple") := by decide +kernel
theorem bt_str : bootBuiltins "str" = some (.type "str") := by decide +kernel
theorem rel_ints {K : PySem.W.Frag} {ρ : List Addr} {H : Hp} : ∀ ns : List Int, RelDs K ρ H (ns.map .int) (ns.map V.int)
  | [] => by simp only [List.map_nil, RelDs]
  | n :: ns => by simp only [List.map_cons, RelDs]; exact ⟨_, _, rfl, by simp only [RelD], rel_ints ns⟩
end
theorem ext_nil {H : Hp} {K : PySem.W.Frag} : Ext K [] (fun _ => none) [] H := ⟨(fun _ _ e => e), (fun _ _ e => by cases e), (fun _ _ _ e => by cases e)⟩
noncomputable abbrev R0.nil : R0 := ⟨[], fun _ => none⟩
theorem sp_entry {K : PySem.W.Frag} {H : Hp} {a : Addr} {ns : List Int} {sub : Nat → Nat → Bool} {Pg : List Z.Def} {k i : Nat} (hO : Only H) (hS : SqL K H a (ns.map V.int)) (hZ : ∀ o, K.lookup a = some o → o.slots = #[]) (w : Z.wpCall sub Pg k i [.rol (ns.map .int)] [] (fun d _ => d = .bl true) fun _ _ => False) :
    @spUp R0.nil K (Z.wpCall sub Pg k) i [.ref a] H (fun v _ => v = .bl true) fun _ _ _ => False := by
  letI : R0 := R0.nil
  refine ⟨[], [], [.rol (ns.map .int)], _, fun _ _ => False, ⟨rfl, List.nodup_nil, ext_nil, fun n o e => by simp at e⟩, .one ?_, w, fun d h' ρ' H' v e R r q => ?_⟩
  · simp only [RelD]
    refine ⟨a, _, rfl, ?_, rel_ints ns⟩
    rcases hS with (h | ⟨o, h⟩) | h
    · rcases hO a with z | ⟨o, xs, z⟩
      · rw [z] at h; cases h
      · rw [z] at h; cases h
    · exact .inl ⟨o, h⟩
    · obtain ⟨o, its, n, h1, h2, h3, h4, h5, h6⟩ := h
      exact .inr ⟨o, its, n, h1, h2, h3, h4, h5, h6, hZ o h1⟩
  · subst q
    simpa only [RelD] using r
theorem walkZ {l : PySem.W.OpenLaw} {kk i : Nat} {sub : Nat → Nat → Bool} {Pg : List Z.Def} {q : Program} {loose : List Str} {XP : (Str → Option Value) → Heap → Prop} {YP : World → Heap → Prop} {d : DefRec} {K : Params → PySem.W.Frag} (hn : l.most = some 63) (hdf : d.params.defaults = []) (hr : Room kk callerA)
    (hY : ∀ (w : World) (h : Heap), YP w h → (K w.params).In h)
    (hw : ∀ ns : List Int, ns.length ≤ 63 → Z.wpCall sub Pg kk i [.rol (ns.map .int)] [] (fun d _ => d = .bl true) fun _ _ => False)
    (F : ∀ (w : World) (mg : Str → Option Value) (fa : Addr) (h : Heap), (K w.params).In h → h.Ns mainGlobals mg → mg d.name = some (.ref fa) →
      ∃ fd : FuncData, (∀ (s : Shared) (u : Value), BindsTo s fd ⟨[u], []⟩ [("script", u)]) ∧ ∀ base : Heap, (K w.params).In base → base.Ns mainGlobals mg → FnOk l.prog w (K w.params) mg base CX0 kk fa fd ["script"] (@spUp R0.nil (K w.params) (Z.wpCall sub Pg kk) i)) :
    PySem.W.WalkO q loose XP YP l.row.toRowW d [] (fun f vs => PySem.call f vs) :=
  L2.walk_of (n := 63) (k := kk) (x := "script") (CX := fun _ => CX0) (sp := fun w => @spUp R0.nil (K w.params) (Z.wpCall sub Pg kk) i) hn (by decide) hdf hr hY F (fun _ _ a ns hl hO hS hZ => sp_entry hO hS hZ (hw ns hl)) fun _ _ _ _ _ z => z
end ZS
set_option linter.all false
set_option maxRecDepth 100000
set_option maxHeartbeats 4000000
namespace ZS
open PySem PySem.Spec PyProof.Rows L2
variable [R0]
section
variable {X : Cx} {sub : Nat → Nat → Bool} {Γ : Z.Gam} {E : Z.PX}
end
section
variable {X : Cx} {sub : Nat → Nat → Bool} {Γ : Z.Gam} {E : Z.PX}
end
end ZS
set_option linter.all false
set_option maxRecDepth 100000
set_option maxHeartbeats 4000000
namespace ZS
open PySem PySem.Spec PyProof.Rows L2
variable [R0]
section
variable {pg : Program} {wd : World} {A : Around} {E : Value → Shared → Prop} {s : Shared}
end
section
variable {prog : Program} {w : World} {A : Around} {E : Value → Shared → Prop} {s : Shared}
end
section
variable {X : Cx} {pins : List (Addr × Obj)} {σ : L2.St} {H : Hp} {s : Shared}
end
section
variable {X : Cx} {sub : Nat → Nat → Bool} {Γ : Z.Gam} {E : Z.PX}
end
end ZS
set_option linter.all false
set_option maxRecDepth 100000
set_option maxHeartbeats 4000000
namespace ZS
open PySem PySem.Spec PyProof.Rows L2
variable [R0]
section
variable {prog : Program} {w : World} {A : Around} {R : Result → Shared → Prop} {I : Addr} {fp wr : List Addr} {P : Nat → Value → Prop} {St : Nat → Heap → Prop}
end
section
variable {prog : Program} {w : World} {A : Around} {E : Value → Shared → Prop} {s : Shared}
end
section
variable {X : Cx} {sub : Nat → Nat → Bool} {Γ : Z.Gam} {E : Z.PX}
end
end ZS
set_option linter.all false
set_option maxRecDepth 100000
set_option maxHeartbeats 4000000
namespace ZS
open PySem PySem.Spec PyProof.Rows L2
variable [R0]
section
variable {X : Cx} {sub : Nat → Nat → Bool}
end
end ZS
set_option linter.all false
set_option maxRecDepth 100000
set_option maxHeartbeats 4000000
namespace ZS
open PySem PySem.Spec PyProof.Rows L2
variable [R0]
section
variable {pg : Program} {wd : World} {A : Around} {E : Value → Shared → Prop} {s : Shared} {z TI TO i1 i2 : Addr} {f1 f2 : List Addr} {n1 n2 k : Nat} {P1 P2 : Nat → Value → Prop} {S1 S2 : Nat → Heap → Prop} {a b : Value}
end
section
variable {pg : Program} {wd : World} {A : Around} {E : Value → Shared → Prop} {s : Shared} {z TI TO i1 i2 : Addr} {f1 f2 : List Addr} {n1 n2 k : Nat} {P1 P2 : Nat → Value → Prop} {S1 S2 : Nat → Heap → Prop} {a b : Value}
end
section
variable {pg : Program} {wd : World} {A : Around} {E : Value → Shared → Prop} {s : Shared}
end
section
variable {X : Cx} {sub : Nat → Nat → Bool} {Γ : Z.Gam} {E : Z.PX}
theorem ls_rais {st : Stmt} {c : Nat} {es : Z.Exs} : LS X sub Γ E st (.rais c es) := by
  rintro pins s σ H D I ⟨ρ, h, τ, N, R, L, w, k⟩
  simp only [Z.wpS] at w
end
end ZS
set_option linter.all false
set_option maxRecDepth 100000
set_option maxHeartbeats 4000000
namespace ZS
open PySem PySem.Spec PyProof.Rows L2
variable [R0]
section
variable {X : Cx} {sub : Nat → Nat → Bool} {Γ : Z.Gam} {E : Z.PX}
end
end ZS
set_option linter.all false
set_option maxRecDepth 100000
set_option maxHeartbeats 4000000
namespace ZS
open PySem PySem.Spec PyProof.Rows L2
variable [R0]
section
variable {X : Cx} {sub : Nat → Nat → Bool} {Γ : Z.Gam} {E : Z.PX}
end
end ZS
set_option linter.all false
set_option maxRecDepth 100000
set_option maxHeartbeats 4000000
namespace ZS
open PySem PySem.Spec PyProof.Rows L2
variable [R0]
section
variable {X : Cx} {sub : Nat → Nat → Bool} {Γ : Z.Gam} {E : Z.PX}
end
end ZS
set_option linter.all false
set_option maxRecDepth 100000
set_option maxHeartbeats 4000000
namespace ZS
open PySem PySem.Spec PyProof.Rows L2
variable [R0]
section
variable {X : Cx} {sub : Nat → Nat → Bool} {Γ : Z.Gam} {E : Z.PX}
end
end ZS
set_option linter.all false
set_option maxRecDepth 100000
set_option maxHeartbeats 4000000
namespace ZS
open PySem PySem.Spec PyProof.Rows L2
section
variable {M : Model} {A : Around} {E : Value → Shared → Prop} {s : Shared}
end
section
variable {M : Model} {A : Around} {E : Value → Shared → Prop} {s : Shared}
end
variable [R0]
end ZS
set_option linter.all false
set_option maxRecDepth 100000
set_option maxHeartbeats 4000000
namespace ZS
open PySem PySem.Spec PyProof.Rows L2
section
variable {X : Cx} {pins : List (Addr × Obj)} {σ : L2.St} {H : Hp} {s : Shared}
end
end ZS
set_option linter.all false
set_option maxRecDepth 100000
set_option maxHeartbeats 4000000
namespace ZS
open PySem PySem.Spec PyProof.Rows L2
variable [R0]
section
variable {X : Cx} {sub : Nat → Nat → Bool} {Γ : Z.Gam} {E : Z.PX}
end
section
open PySem.W
variable {prog : Program} {w : World} {A : Around} {E : Value → Shared → Prop} {s : Shared} {K : PySem.W.Frag} {x D : Addr} {ox : Obj}
end
section
variable {X : Cx} {sub : Nat → Nat → Bool} {Γ : Z.Gam} {E : Z.PX}
end
end ZS
set_option linter.all false
set_option maxRecDepth 100000
set_option maxHeartbeats 4000000
namespace ZS
open PySem PySem.Spec PyProof.Rows L2
section
variable {X : Cx} {pins : List (Addr × Obj)} {σ : L2.St} {H : Hp} {s : Shared}
end
variable [r0 : R0]
section
variable {X : Cx} {sub : Nat → Nat → Bool} {Γ : Z.Gam} {E : Z.PX}
end
end ZS
set_option linter.all false
set_option maxRecDepth 100000
set_option maxHeartbeats 4000000
namespace ZS
open PySem PySem.Spec PyProof.Rows L2
variable [R0]
section
variable {X : Cx} {sub : Nat → Nat → Bool} {Γ : Z.Gam} {E : Z.PX}
end
end ZS
set_option linter.all false
set_option maxRecDepth 100000
set_option maxHeartbeats 4000000
namespace ZS
open PySem PySem.Spec PyProof.Rows L2
variable [r0 : R0]
section
variable {X : Cx} {sub : Nat → Nat → Bool} {Γ : Z.Gam} {E : Z.PX}
end
end ZS
set_option linter.all false
set_option maxRecDepth 100000
set_option maxHeartbeats 4000000
namespace ZS
open PySem PySem.Spec PyProof.Rows L2
variable [R0]
section
variable {X : Cx} {sub : Nat → Nat → Bool} {Γ : Z.Gam} {E : Z.PX}
end
end ZS
set_option linter.all false
set_option maxRecDepth 100000
set_option maxHeartbeats 4000000
namespace ZT
open PySem PyProof PyProof.Rows
section
variable {prog : Program} {w : World} {A : Around} {E : Value → Shared → Prop} {s : Shared} {r l : Addr} {items : Array Value}
end
end ZT
namespace ZS
open PySem PySem.Spec PyProof.Rows L2
variable [R0]
section
variable {X : Cx} {sub : Nat → Nat → Bool} {Γ : Z.Gam} {E : Z.PX}
end
end ZS
set_option linter.all false
set_option maxRecDepth 100000
set_option maxHeartbeats 4000000
namespace ZS
open PySem PySem.Spec PyProof.Rows L2
variable [R0]
section
variable {X : Cx} {sub : Nat → Nat → Bool} {Γ : Z.Gam} {E : Z.PX}
theorem c1 {P : List Value → Prop} {us : List Value} {n : Nat} (hl : us.length = n + 1) (h : ∀ a r, r.length = n → P (a :: r)) : P us := by
  cases us with
  | nil => cases hl
  | cons a r => exact h a r (Nat.succ.inj hl)
@[elab_as_elim] theorem by0 {P : List Value → Prop} {us : List Value} (hl : us.length = 0) (h : P []) : P us := List.eq_nil_of_length_eq_zero hl ▸ h
@[elab_as_elim] theorem by1 {P : List Value → Prop} {us : List Value} (hl : us.length = 1) (h : ∀ a, P [a]) : P us := c1 hl fun a _ g => by0 g (h a)
@[elab_as_elim] theorem by2 {P : List Value → Prop} {us : List Value} (hl : us.length = 2) (h : ∀ a b, P [a, b]) : P us := c1 hl fun a _ g => by1 g (h a)
@[elab_as_elim] theorem by3 {P : List Value → Prop} {us : List Value} (hl : us.length = 3) (h : ∀ a b c, P [a, b, c]) : P us := c1 hl fun a _ g => by2 g (h a)
end
end ZS
set_option linter.all false
set_option maxRecDepth 100000
set_option maxHeartbeats 4000000
namespace ZS
open PySem PySem.Spec PyProof.Rows L2
variable [R0]
section
variable {X : Cx} {sub : Nat → Nat → Bool} {Γ : Z.Gam} {E : Z.PX}
end
end ZS
set_option linter.all false
set_option maxRecDepth 100000
set_option maxHeartbeats 4000000
namespace ZS
open PySem PySem.Spec PyProof.Rows L2
variable [R0]
section
variable {X : Cx} {sub : Nat → Nat → Bool} {Γ : Z.Gam} {E : Z.PX}
noncomputable def CstV (K : PySem.W.Frag) (d : Z.D) (u : Value) : Prop := ∃ v, RelV v u ∧ ∀ ρ H, RelD K ρ H d v
noncomputable def CstVs (K : PySem.W.Frag) : List Z.D → List Value → Prop := Paired (CstV K)
theorem cst_int {K : PySem.W.Frag} {n : Int} {t : Tok} : CstV K (.int n) (.int n t) := ⟨.int n, ⟨t, rfl⟩, fun _ _ => by simp only [RelD]⟩
theorem cst_str {K : PySem.W.Frag} {s : Str} {l : List Nat} {t : Tok} (h : s = ⟨l.toArray⟩) (hl : l.length ≤ Z.lim) : CstV K (.str l) (.str s t) :=
  ⟨.str s, ⟨t, rfl⟩, fun _ _ => by simp only [RelD]; exact ⟨congrArg V.str h, hl⟩⟩
theorem csts_vals {K : PySem.W.Frag} : ∀ {ds : List Z.D} {us : List Value}, CstVs K ds us → ∃ vs, Vals vs us ∧ ∀ ρ H, RelDs K ρ H ds vs
  | _, _, .nil => ⟨[], .nil, fun _ _ => by simp only [RelDs]⟩
  | _, _, .cons (a := d) r t => by
    obtain ⟨v, h1, h2⟩ := r
    obtain ⟨vs, h3, h4⟩ := csts_vals t
    exact ⟨v :: vs, .cons h1 h3, fun ρ H => by simp only [RelDs]; exact ⟨v, vs, rfl, h2 ρ H, h4 ρ H⟩⟩
theorem cst_tup {K : PySem.W.Frag} {a : Addr} {its : Array Value} {n : Nat} {sl : Array (Option Value)} {ds : List Z.D} (hl : K.lookup a = some ⟨.type "tuple", none, .seq its n, sl⟩) (hz : its.size ≤ sizeLine) (hc : CstVs K ds its.toList) : CstV K (.tup ds) (.ref a) := by
  obtain ⟨vs, h1, h2⟩ := csts_vals hc
  exact ⟨.ref a, rfl, fun ρ H => by simp only [RelD]; exact ⟨a, vs, rfl, .inr ⟨_, its, n, hl, rfl, rfl, rfl, hz, h1⟩, h2 ρ H⟩⟩
theorem zgl {x : Str} {d : Z.D} {u : Value} {pos : Pos} (hm : X.mg x = some u) (hc : CstV X.K d u) (hg : Gl X x := by rfl) (hd : (x == ("__debug__" : Str)) = false := by decide) : LE X sub Γ E (.Name x pos) (.lit d) := by
  obtain ⟨v, h1, h2⟩ := hc
  exact le_lit (pe_glob hg hm h1 hd) h2
noncomputable def entS (w : World) (p : Str × Tok × Value) : DictEntry := ⟨PyData.keyHash w.params p.1, .str p.1 p.2.1, p.2.2⟩
noncomputable def kvS (p : Str × Tok × Value) : Key × Value := (.inr p.1, p.2.2)
theorem ent_pairs {P : Program} {w : World} : ∀ kus : List (Str × Tok × Value), PySem.Pairs (mixKind P w) (kus.map (entS w)) (kus.map kvS)
  | [] => .nil
  | p :: l => .cons (mixKind_str P w _ _) rfl (ent_pairs l)
structure TabAt (K : PySem.W.Frag) (w : World) (a : Addr) (t : List (Z.S × Z.D)) : Prop where
  sm : (a == sysModules) = false
  dd : ∃ kus : List (Str × Tok × Value), (∀ (P : Program) (h : Heap), K.In h → h.DictOf (mixKind P w) a (kus.map kvS)) ∧ kus.map (·.1) = t.map (fun p => (⟨p.1.toArray⟩ : Str)) ∧ CstVs K (t.map (·.2)) (kus.map (·.2.2))
theorem tab_mk {K : PySem.W.Frag} {w : World} {a : Addr} {es : Array DictEntry} {n : Nat} {t : List (Z.S × Z.D)} (kus : List (Str × Tok × Value)) (hl : K.lookup a = some ⟨.type "dict", none, .dict es n, #[]⟩) (he : es.toList = kus.map (entS w)) (sm : (a == sysModules) = false)
    (hn : (kus.map (·.1)).Nodup) (hk : kus.map (·.1) = t.map (fun p => (⟨p.1.toArray⟩ : Str))) (hc : CstVs K (t.map (·.2)) (kus.map (·.2.2))) : TabAt K w a t := by
  refine ⟨sm, kus, fun P h Y => ⟨_, es, n, Y a _ hl, ⟨rfl, rfl, rfl⟩, rfl, ?_, ?_, ?_⟩, hk, hc⟩
  · intro e he'
    have q : e ∈ es.toList := Array.mem_toList_iff.mpr he'
    rw [he] at q
    obtain ⟨p, _, rfl⟩ := List.mem_map.mp q
    exact ⟨.inr p.1, mixKind_str P w _ _, rfl⟩
  · rw [he]; exact ent_pairs kus
  · rw [List.map_map]
    have : ((fun x : Key × Value => x.1) ∘ kvS) = (fun x : Str => (Sum.inr x : Key)) ∘ (fun p : Str × Tok × Value => p.1) := rfl
    rw [this, ← List.map_map]
    exact List.Pairwise.map _ (fun a b h z => h (Sum.inr.inj z)) hn
theorem tab_find {K : PySem.W.Frag} {k : Z.S} : ∀ {t : List (Z.S × Z.D)} {kus : List (Str × Tok × Value)}, kus.map (·.1) = t.map (fun p => (⟨p.1.toArray⟩ : Str)) → CstVs K (t.map (·.2)) (kus.map (·.2.2)) →
    match t.lookup k with
    | some d => ∃ u, valueAt (kus.map kvS) (.inr ⟨k.toArray⟩) = some u ∧ CstV K d u
    | none => valueAt (kus.map kvS) (.inr ⟨k.toArray⟩) = none
  | [], [], _, _ => by simp [valueAt]
  | [], _ :: _, h, _ => by simp at h
  | _ :: _, [], h, _ => by simp at h
  | (a, d) :: t, (x, tk, u) :: kus, h, hc => by
    simp only [List.map_cons, List.cons.injEq] at h hc
    cases hc with
    | cons r rs =>
      obtain ⟨hx, h⟩ := h
      subst hx
      have ih := tab_find (k := k) h rs
      by_cases e : k = a
      · subst e
        have : List.lookup k ((k, d) :: t) = some d := by simp [List.lookup]
        rw [this]
        exact ⟨u, by simp [valueAt, kvS], r⟩
      · have e1 : List.lookup k ((a, d) :: t) = List.lookup k t := by
          rw [List.lookup_cons]
          have : (k == a) = false := beq_eq_false_iff_ne.mpr e
          rw [this]
        have e2 : valueAt (((⟨a.toArray⟩ : Str), tk, u) :: kus |>.map kvS) (.inr ⟨k.toArray⟩) = valueAt (kus.map kvS) (.inr ⟨k.toArray⟩) := by
          have : ¬ ((Sum.inr ⟨a.toArray⟩ : Key) = Sum.inr ⟨k.toArray⟩) := fun z => by
            injection z with z
            injection z with z
            exact e (by have := congrArg Array.toList z; simpa using this.symm)
          simp only [valueAt, kvS, List.map_cons, List.find?_cons, decide_eq_false this]
        rw [e1]
        rw [e2]
        exact ih
theorem tin_ok {a : Addr} {t : List (Z.S × Z.D)} {k : Z.S} {pins : List (Addr × Obj)} {s : Shared} {σ : L2.St} {H : Hp} {u : Value} {A : Around} {E : Value → Shared → Prop} {Q : Value → Shared → Prop} (T : TabAt X.K X.w a t) (I : Inv X pins σ H s) (ru : RelV (.str ⟨k.toArray⟩) u)
    (h : ∀ s', Inv X pins σ H s' → Q (.bool (t.lookup k).isSome) s') : wpAny (model X.prog X.w) A (compareOp .In u (.ref a)) Q E s := by
  obtain ⟨sm, kus, dd, h1, h2⟩ := T
  have q := tab_find (k := k) h1 h2
  refine wpAny_in_of (kV_is (k := .inr ⟨k.toArray⟩) ru) sm (dd X.prog s.heap I.kIn).mapOf ?_
  have e : (valueAt (kus.map kvS) (.inr ⟨k.toArray⟩)).isSome = (t.lookup k).isSome := by
    cases ek : t.lookup k with
    | none => rw [ek] at q; rw [q]; rfl
    | some d => rw [ek] at q; obtain ⟨u, q, _⟩ := q; rw [q]; rfl
  rw [e]
  exact h _ (I.tok _)
theorem tget_ok {a : Addr} {t : List (Z.S × Z.D)} {k : Z.S} {d : Z.D} {pins : List (Addr × Obj)} {s : Shared} {σ : L2.St} {H : Hp} {u : Value} {A : Around} {E : Value → Shared → Prop} {Q : Value → Shared → Prop} (T : TabAt X.K X.w a t) (I : Inv X pins σ H s) (ru : RelV (.str ⟨k.toArray⟩) u) (hd : t.lookup k = some d)
    (h : ∀ v w' s', Inv X pins σ H s' → RelV v w' → (∀ ρ H, RelD X.K ρ H d v) → Q w' s') : wpAny (model X.prog X.w) A (getItem (.ref a) u) Q E s := by
  obtain ⟨sm, kus, dd, h1, h2⟩ := T
  have q := tab_find (k := k) h1 h2
  rw [hd] at q
  obtain ⟨w', e, v, rv, rd⟩ := q
  exact wpAny_getItem_of (kV_is (k := .inr ⟨k.toArray⟩) ru) (dd X.prog s.heap I.kIn).mapOf e (h v w' _ (I.tok _) rv rd)
theorem ztin {x : Str} {a : Addr} {t : List (Z.S × Z.D)} {e : Expr} {e' : Z.Ex} {pos pos' : Pos} (hm : X.mg x = some (.ref a)) (T : TabAt X.K X.w a t) (he : LE X sub Γ E e e') (hg : Gl X x := by rfl) (hd : (x == ("__debug__" : Str)) = false := by decide) :
    LE X sub Γ E (.Compare e [.In] [.Name x pos'] pos) (.prim (.tin t) (.cons e' .nil)) := by
  have ho : OpR X (compareOp .In) (fun y z => fun H Q => z = .ref a ∧ rP X.K sub (.tin t) [y] H Q) := by
    rintro pins s σ H y z v u Q I ry rz ⟨rfl, ρ, h, ds, d, h', R, rs, hp, k⟩
    cases rz
    obtain ⟨d1, rfl, r1⟩ := rel1' rs
    cases d1 with
    | str c =>
      simp only [Z.prim, Z.pTin, Option.some.injEq, Prod.mk.injEq] at hp
      obtain ⟨rfl, rfl⟩ := hp
      simp only [RelD] at r1
      obtain ⟨rfl, _⟩ := r1
      exact tin_ok T I ry fun s' I' => ⟨.bl _, H, I', rfl, k ρ H _ .refl R (by simp only [RelD])⟩
    | _ => simp [Z.prim, Z.pTin] at hp
  refine PEw (pe_cmpR ho he (pe_glob (v := .ref a) hg hm rfl hd) (by rfl)) ?_
  rintro σ H Q ⟨ρ, h, τ, Q', R, L, w, k⟩
  simp only [Z.wpE, Z.wpEs] at w
  refine ⟨ρ, h, τ, _, R, L, w, fun d1 h1 ρ1 H1 x e1 R1 r1 w1 => ?_⟩
  cases q : Z.prim sub (.tin t) [d1] h1 with
  | none => rw [q] at w1; exact w1.elim
  | some z =>
    rw [q] at w1
    exact ⟨rfl, ρ1, h1, [d1], z.1, z.2, R1, .one r1, q, fun ρ' H' v e' R' r' => k _ _ ρ' H' v (e1.trans e') R' r' w1⟩
theorem ztget {x : Str} {a : Addr} {t : List (Z.S × Z.D)} {e : Expr} {e' : Z.Ex} {pos pos' : Pos} (hm : X.mg x = some (.ref a)) (T : TabAt X.K X.w a t) (he : LE X sub Γ E e e') (hg : Gl X x := by rfl) (hd : (x == ("__debug__" : Str)) = false := by decide) (hs : PlainIx e := by intro _ _; rfl) :
    LE X sub Γ E (.Subscript (.Name x pos') e pos) (.prim (.tget t) (.cons e' .nil)) := by
  have ho : IxR X (fun z y => fun H Q => z = .ref a ∧ rP X.K sub (.tget t) [y] H Q) := by
    rintro ve se pins s σ H z y u v Q I rz ry ⟨rfl, ρ, h, ds, d, h', R, rs, hp, k⟩ hs
    cases rz
    obtain ⟨d1, rfl, r1⟩ := rel1' rs
    cases d1 with
    | str c =>
      simp only [Z.prim, Z.pTget] at hp
      cases ec : t.lookup c with
      | none => rw [ec] at hp; cases hp
      | some dv =>
        rw [ec] at hp
        simp only [Option.map_some, Option.some.injEq, Prod.mk.injEq] at hp
        obtain ⟨rfl, rfl⟩ := hp
        simp only [RelD] at r1
        obtain ⟨rfl, _⟩ := r1
        have ty : s.TypeIs (.ref a) "dict" := by
          obtain ⟨_, kus, dd, _, _⟩ := T
          obtain ⟨o, es, ep, h1, h2, _⟩ := dd X.prog s.heap I.kIn
          exact ⟨o, h1, h2.1⟩
        exact tail_any ty PySem.F.slot_dict_getitem.lookup (tget_ok T I ry ec fun w w' s' I' rw' rd => ⟨w, H, I', rw', k ρ H _ .refl R (rd ρ H)⟩) hs
    | _ => simp [Z.prim, Z.pTget] at hp
  refine PEw (pe_ix ho (pe_glob (v := .ref a) hg hm rfl hd) he hs) ?_
  rintro σ H Q ⟨ρ, h, τ, Q', R, L, w, k⟩
  simp only [Z.wpE, Z.wpEs] at w
  refine ⟨ρ, h, τ, _, R, L, w, fun d1 h1 ρ1 H1 x e1 R1 r1 w1 => ?_⟩
  cases q : Z.prim sub (.tget t) [d1] h1 with
  | none => rw [q] at w1; exact w1.elim
  | some z =>
    rw [q] at w1
    exact ⟨rfl, ρ1, h1, [d1], z.1, z.2, R1, .one r1, q, fun ρ' H' v e' R' r' => k _ _ ρ' H' v (e1.trans e') R' r' w1⟩
end
end ZS
set_option linter.all false
set_option maxRecDepth 100000
set_option maxHeartbeats 4000000
namespace ZS
open PySem PySem.Spec PyProof.Rows L2
variable [R0]
section
variable {X : Cx} {sub : Nat → Nat → Bool} {Γ : Z.Gam} {E : Z.PX}
theorem zaug (i : Nat) {x : Str} {e : Expr} {e' : Z.Ex} {pos pos' : Pos} (hN : X.N.Nodup) (he : LE X sub Γ E e e') (hi : X.N[i]? = some x := by rfl) (hx : Loc X.env.scope x := by first | exact Or.inl rfl | exact Or.inr rfl)
    (hf : X.fn x = true ∨ X.env.scope.names.lookup x = some .local := by first | exact .inl rfl | exact .inr rfl) : LS X sub Γ E (.AugAssign (.Name x pos') .Add e pos) (.asg i (.prim .sub (.cons (.var i) (.cons (.prim .neg (.cons e' .nil)) .nil)))) := by
  refine PSw (ps_aug hN hi hx he ip_add hf) ?_
  rintro D σ H ⟨ρ, h, τ, N, R, L, w, k⟩
  simp only [Z.wpS, Z.wpE, Z.wpEs] at w
  cases q : τ[i]? with
  | none => rw [q] at w; exact w.elim
  | some o =>
    cases o with
    | none => rw [q] at w; exact w.elim
    | some d =>
      rw [q] at w
      obtain ⟨v, ev, r⟩ := L.2 i d q
      refine ⟨v, ev, ρ, h, τ, _, R, L, w, fun d1 h1 ρ1 H1 y e1 R1 r1 w1 => ?_⟩
      cases d1 with
      | int j =>
        cases d with
        | int n =>
          simp only [Z.prim, Z.pNeg, Z.pInt2] at w1
          simp only [RelD] at r r1
          exact ⟨n, j, r, r1, k.nx _ h1 ρ1 H1 _ e1 R1 ((L.mono e1).set (by simp only [RelD]; rw [Int.sub_neg])) w1⟩
        | _ => simp [Z.prim, Z.pNeg, Z.pInt2] at w1
      | _ => simp [Z.prim, Z.pNeg] at w1
theorem zcallD {k i : Nat} {f : Addr} {fd : FuncData} {ps : List Str} {x : Str} {e : Expr} {es : List Expr} {es' : Z.Exs} {u : Value} {d : Z.D} {p pos : Pos} (hr : Room k X.A)
    (F : FnOk X.prog X.w X.K X.mg X.base CX0 k f fd ps (spUp X.K Γ i)) (hm : X.mg x = some (.ref f)) (hk : PySem.W.keepIn X.K (.ref f) = true) (hb : Binds X.K fd ps [u]) (hc : CstV X.K d u) (ha : LA X sub Γ E (e :: es) es') (hg : Gl X x := by rfl)
    (hdb : (x == ("__debug__" : Str)) = false := by decide) (he : starEach (e :: es) X.env = (false, eval e X.env) :: starEach es X.env := by rfl) (hpl : (backTo pos (starEach es X.env)).any (·.1) = false := by rfl) :
    LE X sub Γ E (.Call (.Name x p) (e :: es) [] pos) (.call i es' [d]) := by
  obtain ⟨v, r1, r2⟩ := hc
  exact le_call F hr hg hm hk hb (.cons r1 .nil) pass0 (fun ρ H => .one (r2 ρ H)) ha hdb he hpl
end
end ZS
set_option linter.all false
set_option maxRecDepth 100000
set_option maxHeartbeats 4000000
namespace ZS
open PySem PySem.Spec PyProof.Rows L2
variable [R0]
section
variable {X : Cx} {sub : Nat → Nat → Bool} {Γ : Z.Gam} {E : Z.PX}
theorem pre_take (p l : List Nat) : p.isPrefixOf l = decide (l.take p.length = p) := by
  rw [Bool.eq_iff_iff, decide_eq_true_iff, List.isPrefixOf_iff_prefix, List.prefix_iff_eq_take]
  exact eq_comm
theorem sub_at (s p : List Nat) (i : Nat) : Builtin.Str.subAt ⟨s.toArray⟩ ⟨p.toArray⟩ i = p.isPrefixOf (s.drop i) := by
  rw [pre_take]
  unfold Builtin.Str.subAt
  have e : (s.toArray.extract i (i + (⟨p.toArray⟩ : Str).length)) = ((s.drop i).take p.length).toArray := by
    apply Array.ext'
    have hl : (⟨p.toArray⟩ : Str).length = p.length := by simp [Str.length]
    rw [hl]
    simp only [Array.toList_extract, List.extract_eq_drop_take]
    rw [Nat.add_sub_cancel_left]
  show (s.toArray.extract i (i + (⟨p.toArray⟩ : Str).length) == p.toArray) = _
  rw [e, Bool.eq_iff_iff, beq_iff_eq, decide_eq_true_iff]
  exact ⟨fun h => by have := congrArg Array.toList h; simpa using this, fun h => by rw [h]⟩
theorem starts_ok (s p : List Nat) (i : Int) (h0 : 0 ≤ i) (h1 : i ≤ s.length) : Txt.startswith3 ⟨s.toArray⟩ ⟨p.toArray⟩ i = p.isPrefixOf (s.drop i.toNat) := by
  have e : fromIndex (⟨s.toArray⟩ : Str).length i = i.toNat := by
    unfold fromIndex
    rw [if_neg (by omega)]
    omega
  unfold Txt.startswith3
  rw [e, sub_at]
  cases q : p.isPrefixOf (s.drop i.toNat) with
  | false => rw [Bool.and_false]
  | true =>
    rw [Bool.and_true]
    have := (List.isPrefixOf_iff_prefix.mp q).length_le
    rw [List.length_drop] at this
    exact decide_eq_true (by show i.toNat + p.toArray.size ≤ s.toArray.size; simp; omega)
theorem starts_ok0 (s p : List Nat) : Txt.startswith ⟨s.toArray⟩ ⟨p.toArray⟩ = p.isPrefixOf s := by
  have := starts_ok s p 0 (by omega) (by omega)
  unfold Txt.startswith3 at this
  unfold Txt.startswith
  simpa [fromIndex] using this
theorem lstrip_drop (c : Nat) : ∀ s : List Nat, Z.lstrip c s = s.drop (s.takeWhile fun x => x == c).length
  | [] => rfl
  | x :: xs => by
    simp only [Z.lstrip, List.takeWhile_cons]
    by_cases e : x = c
    · subst e
      rw [if_pos rfl, if_pos (by simp), lstrip_drop x xs]
      rfl
    · rw [if_neg e, if_neg (by simpa using e)]
      rfl
theorem strip_ok (s : List Nat) (c : Nat) : Txt.stripChars ⟨s.toArray⟩ ⟨#[c]⟩ = ⟨(Z.strip c s).toArray⟩ := by
  have g : (⟨#[c]⟩ : Str).cps.contains = fun x => x == c := by
    funext x
    show Array.contains #[c] x = _
    rw [Bool.eq_iff_iff]
    simp
  unfold Txt.stripChars
  rw [PySem.W.stripBy_eq, g]
  unfold PySem.W.stripped Z.strip
  simp only [if_true]
  rw [lstrip_drop c (Z.lstrip c s).reverse, lstrip_drop c s]
  show Builtin.Str.strSub _ _ _ = _
  unfold Builtin.Str.strSub
  congr 1
  apply Array.ext'
  have hl : (⟨s.toArray⟩ : Str).length = s.length := by simp [Str.length]
  rw [hl]
  simp only [Array.toList_extract, List.extract_eq_drop_take]
  rw [List.drop_reverse, List.reverse_reverse, List.length_drop]
  congr 1
  omega
theorem m_starts3 : MtR X "str.startswith" (fun x xs => rP X.K sub .starts3 (x :: xs)) := by
  rintro pins s σ H x xs v us Q I rx rxs ⟨ρ, h, ds, d, h', R, rs, hp, k⟩
  cases ds with
  | nil => simp [RelDs] at rs
  | cons d0 ds =>
    simp only [RelDs, List.cons.injEq] at rs
    obtain ⟨_, _, ⟨rfl, rfl⟩, r0, rs⟩ := rs
    cases d0 with
    | str a =>
      simp only [RelD] at r0
      obtain ⟨rfl, ha⟩ := r0
      obtain ⟨t, rfl⟩ := rx
      cases ds with
      | nil => simp [Z.prim, Z.pStarts] at hp
      | cons d1 ds =>
        simp only [RelDs] at rs
        obtain ⟨y, r, rfl, r1, rs⟩ := rs
        cases d1 with
        | str b =>
          simp only [RelD] at r1
          obtain ⟨rfl, hb⟩ := r1
          cases ds with
          | nil =>
            simp only [RelDs] at rs
            subst rs
            cases rxs with
            | cons q1 q2 =>
              cases q2
              obtain ⟨t1, rfl⟩ := q1
              simp only [Z.prim, Z.pStarts, Option.some.injEq, Prod.mk.injEq] at hp
              obtain ⟨rfl, rfl⟩ := hp
              exact SC.startswith ⟨.bl _, H, I, rfl, k ρ H _ .refl R (by simp only [RelD]; rw [starts_ok0])⟩
          | cons d2 ds =>
            simp only [RelDs] at rs
            obtain ⟨z, r, rfl, r2, rs⟩ := rs
            cases d2 with
            | int i =>
              cases ds with
              | nil =>
                simp only [RelDs] at rs
                subst rs
                simp only [RelD] at r2
                subst r2
                cases rxs with
                | cons q1 q2 =>
                  cases q2 with
                  | cons q2 q3 =>
                    cases q3
                    obtain ⟨t1, rfl⟩ := q1
                    obtain ⟨t2, rfl⟩ := q2
                    simp only [Z.prim, Z.pStarts] at hp
                    split at hp
                    · rename_i c
                      simp only [Option.some.injEq, Prod.mk.injEq] at hp
                      obtain ⟨rfl, rfl⟩ := hp
                      exact SC.startswith3 ⟨.bl _, H, I, rfl, k ρ H _ .refl R (by simp only [RelD]; rw [starts_ok _ _ _ c.1 c.2])⟩
                    · cases hp
              | cons _ _ => simp [Z.prim, Z.pStarts] at hp
            | _ => simp [Z.prim, Z.pStarts] at hp
        | _ => simp [Z.prim, Z.pStarts] at hp
    | _ => simp [Z.prim, Z.pStarts] at hp
theorem strip_len (c : Nat) (s : List Nat) : (Z.strip c s).length ≤ s.length := by
  unfold Z.strip
  rw [lstrip_drop, lstrip_drop]
  simp only [List.length_reverse, List.length_drop]
  omega
theorem m_strip : MtR X "str.strip" (fun x xs => rP X.K sub .strip (x :: xs)) := by
  rintro pins s σ H x xs v us Q I rx rxs ⟨ρ, h, ds, d, h', R, rs, hp, k⟩
  cases ds with
  | nil => simp [RelDs] at rs
  | cons d0 ds =>
    simp only [RelDs, List.cons.injEq] at rs
    obtain ⟨_, _, ⟨rfl, rfl⟩, r0, rs⟩ := rs
    cases d0 with
    | str a =>
      simp only [RelD] at r0
      obtain ⟨rfl, ha⟩ := r0
      obtain ⟨t, rfl⟩ := rx
      cases ds with
      | nil => simp [Z.prim, Z.pStrip] at hp
      | cons d1 ds =>
        simp only [RelDs] at rs
        obtain ⟨y, r, rfl, r1, rs⟩ := rs
        cases d1 with
        | str b =>
          simp only [RelD] at r1
          obtain ⟨rfl, hb⟩ := r1
          cases b with
          | nil => simp [Z.prim, Z.pStrip] at hp
          | cons c b =>
            cases b with
            | cons _ _ => simp [Z.prim, Z.pStrip] at hp
            | nil =>
              cases ds with
              | cons _ _ => simp [Z.prim, Z.pStrip] at hp
              | nil =>
                simp only [RelDs] at rs
                subst rs
                cases rxs with
                | cons q1 q2 =>
                  cases q2
                  obtain ⟨t1, rfl⟩ := q1
                  simp only [Z.prim, Z.pStrip, Option.some.injEq, Prod.mk.injEq] at hp
                  obtain ⟨rfl, rfl⟩ := hp
                  have hz : (⟨a.toArray⟩ : Str).length ≤ sizeLine := by
                    rw [sizeLine_eq]
                    simpa [Str.length, Z.lim] using ha
                  refine SC.stripChars (fun t' n => ?_) hz
                  have e := strip_ok a c
                  exact ⟨.str ⟨(Z.strip c a).toArray⟩, H, I.tok n, ⟨t', by rw [← e]⟩, k ρ H _ .refl R (by simp only [RelD]; exact ⟨trivial, Nat.le_trans (strip_len c a) ha⟩)⟩
        | _ => simp [Z.prim, Z.pStrip] at hp
    | _ => simp [Z.prim, Z.pStrip] at hp
end
end ZS
set_option linter.all false
set_option maxRecDepth 100000
set_option maxHeartbeats 4000000
namespace ZS
open PySem PySem.Spec PyProof.Rows L2
variable [R0]
section
variable {X : Cx} {sub : Nat → Nat → Bool} {Γ : Z.Gam} {E : Z.PX}
noncomputable def jn (acc : Z.Ex) : List Z.Ex → Z.Ex
  | [] => acc
  | e :: es => jn (.prim .add (.cons acc (.cons e .nil))) es
noncomputable def wJ (sub : Nat → Nat → Bool) (Γ : Z.Gam) (E : Z.PX) : List Z.Ex → Z.D → Z.Lo → Z.AH → Z.PV → Prop
  | [], v, _, h, Q => Q v h
  | e :: es, v, σ, h, Q => Z.wpE sub Γ E e σ h fun y h2 => match Z.prim sub .add [v, y] h2 with
    | some (z, h3) => wJ sub Γ E es z σ h3 Q
    | none => False
theorem jn_eq : ∀ (es : List Z.Ex) (acc : Z.Ex) (σ : Z.Lo) (h : Z.AH) (Q : Z.PV), Z.wpE sub Γ E (jn acc es) σ h Q = Z.wpE sub Γ E acc σ h fun v h1 => wJ sub Γ E es v σ h1 Q
  | [], acc, σ, h, Q => rfl
  | e :: es, acc, σ, h, Q => by
    show Z.wpE sub Γ E (jn (.prim .add (.cons acc (.cons e .nil))) es) σ h Q = _
    rw [jn_eq es]
    simp only [Z.wpE, Z.wpEs, wJ]
    all_goals rfl
noncomputable def LF (X : Cx) (sub : Nat → Nat → Bool) (Γ : Z.Gam) (E : Z.PX) (p : Expr) (e : Z.Ex) : Prop := PE X p fun σ H Q => upE X.K (Z.wpE sub Γ E e) σ H fun x H1 => ∃ y : List Nat, x = .str ⟨y.toArray⟩ ∧ y.length ≤ Z.lim ∧ Q (.str ⟨y.toArray⟩) H1
theorem lf_c {p : Expr} {e : Z.Ex} (h : LE X sub Γ E p e) : LF X sub Γ E p e := fun pins s σ H Q I w =>
  thn (h pins s σ H _ I w) fun u s1 ⟨v, H1, I1, r, y, e, _, q⟩ => ⟨v, H1, I1, r, e ▸ q⟩
theorem lf_f {v : Expr} {e : Z.Ex} {pos : Pos} (h : LE X sub Γ E v e) : LF X sub Γ E (.FormattedValue v (-1) none pos) e := fun pins s σ H Q I w => by
  refine FormattedValue_plain (thn (h pins s σ H _ I w) fun u s1 ⟨x, H1, I1, r, y, e, hz, q⟩ => ?_)
  subst e
  obtain ⟨t, rfl⟩ := r
  refine formatField_str (hsz := by rw [sizeLine_eq]; simpa [Str.length, Z.lim] using hz) ?_
  exact fun t1 n => ⟨.str ⟨y.toArray⟩, H1, I1.tok n, ⟨t1, rfl⟩, q⟩
inductive LFs (X : Cx) (sub : Nat → Nat → Bool) (Γ : Z.Gam) (E : Z.PX) : List Expr → List Z.Ex → Prop
  | nil : LFs X sub Γ E [] []
  | cons {p : Expr} {ps : List Expr} {e : Z.Ex} {es : List Z.Ex} : LF X sub Γ E p e → LFs X sub Γ E ps es → LFs X sub Γ E (p :: ps) (e :: es)
theorem join_ok {ps : List Expr} {es : List Z.Ex} (L : LFs X sub Γ E ps es) : ∀ {pins : List (Addr × Obj)} {s : Shared} {σ : L2.St} {H : Hp} {Q : VK} {ρ : List Addr} {h : Z.AH} {τ : Z.Lo} {Q' : Z.PV} {out : List Nat}, Inv X pins σ H s → Rep X.K ρ h H → RelL X.K ρ H τ σ → out.length ≤ Z.lim → wJ sub Γ E es (.str out) τ h Q' →
    (∀ d h' ρ' H' v, Ext X.K ρ H ρ' H' → Rep X.K ρ' h' H' → RelD X.K ρ' H' d v → Q' d h' → Q v H') →
    wpAny (model X.prog X.w) X.A (joinParts ⟨out.toArray⟩ (evalEach ps X.env)) (EP X pins σ Q) X.xe s := by
  induction L with
  | nil =>
    intro pins s σ H Q ρ h τ Q' out I R L hz w k
    refine joinParts_nil ⟨.str ⟨out.toArray⟩, H, I.tok _, ⟨_, rfl⟩, k _ h ρ H _ .refl R (by simp only [RelD]; exact ⟨trivial, hz⟩) w⟩ ?_
    rw [sizeLine_eq]; simpa [Str.length, Z.lim] using hz
  | @cons p ps e es hp hps ih =>
    intro pins s σ H Q ρ h τ Q' out I R L hz w k
    show wpAny _ _ (joinParts _ (eval p X.env :: evalEach ps X.env)) _ _ _
    refine joinParts_cons ?_
    simp only [wJ] at w
    refine thn (hp pins s σ H (fun x H1 => ∃ ρ1 h1 out1, x = .str ⟨out1.toArray⟩ ∧ Ext X.K ρ H ρ1 H1 ∧ Rep X.K ρ1 h1 H1 ∧ out1.length + out.length ≤ Z.lim ∧ wJ sub Γ E es (.str (out ++ out1)) τ h1 Q') I ⟨ρ, h, τ, _, R, L, w, fun d1 h1 ρ1 H1 v e1 R1 r1 w1 => ?_⟩) fun u s1 q => ?_
    · cases d1 with
      | str o1 =>
        simp only [Z.prim, Z.pAdd] at w1
        simp only [RelD] at r1
        split at w1
        · rename_i z hz2
          split at hz2
          · rename_i c
            simp only [Option.some.injEq, Prod.mk.injEq] at hz2
            obtain ⟨rfl, rfl⟩ := hz2
            exact ⟨o1, r1.1, r1.2, ρ1, h1, o1, rfl, e1, R1, by omega, w1⟩
          · cases hz2
        · exact w1.elim
      | _ => simp [Z.prim, Z.pAdd] at w1
    · obtain ⟨v, H1, I1, r, ρ1, h1, o1, rfl, e1, R1, hl, w1⟩ := q
      obtain ⟨t, rfl⟩ := r
      have ea : (⟨out.toArray⟩ : Str) ++ (⟨o1.toArray⟩ : Str) = ⟨(out ++ o1).toArray⟩ := by
        show Str.mk (out.toArray ++ o1.toArray) = _
        simp
      refine ⟨?_, ?_⟩
      · rw [ea, sizeLine_eq]
        simp [Str.length, Z.lim] at hl ⊢
        omega
      · rw [ea]
        exact ih I1 R1 (L.mono e1) (by rw [List.length_append]; omega) w1 fun d h' ρ' H' v e' => k d h' ρ' H' v (e1.trans e')
theorem zfs {p q : Expr} {ps : List Expr} {es : List Z.Ex} {pos : Pos} (L : LFs X sub Γ E (p :: q :: ps) es) : LE X sub Γ E (.JoinedStr (p :: q :: ps) pos) (jn (.lit (.str [])) es) := by
  rintro pins s σ H Q I ⟨ρ, h, τ, Q', R, Lc, w, k⟩
  rw [jn_eq] at w
  simp only [Z.wpE] at w
  exact JoinedStr_many (join_ok L I R Lc (Nat.zero_le _) w k)
end
end ZS
set_option linter.all false
set_option maxRecDepth 100000
set_option maxHeartbeats 4000000
namespace ZS
open PySem PySem.Spec PyProof.Rows L2
variable [R0]
section
variable {X : Cx} {sub : Nat → Nat → Bool} {Γ : Z.Gam} {E : Z.PX}
theorem isSub_iff (x : List Nat) : ∀ y : List Nat, Z.isSub x y = true ↔ ∃ i, i ≤ y.length ∧ x.isPrefixOf (y.drop i) = true
  | [] => by
    simp only [Z.isSub, List.drop_nil]
    constructor
    · intro h; refine ⟨0, Nat.le_refl _, ?_⟩; cases x <;> simp_all [List.isPrefixOf]
    · rintro ⟨i, _, h⟩; cases x <;> simp_all [List.isPrefixOf]
  | c :: r => by
    simp only [Z.isSub, Bool.or_eq_true, isSub_iff x r]
    constructor
    · rintro (h | ⟨i, h1, h2⟩)
      · exact ⟨0, Nat.zero_le _, h⟩
      · exact ⟨i + 1, by simpa using h1, h2⟩
    · rintro ⟨i, h1, h2⟩
      cases i with
      | zero => exact .inl h2
      | succ i => exact .inr ⟨i, by simpa using h1, h2⟩
theorem occ_sub (x y : List Nat) : (!(Builtin.Str.occurrences ⟨y.toArray⟩ ⟨x.toArray⟩ 0 (⟨y.toArray⟩ : Str).length 1).isEmpty) = Z.isSub x y := by
  rw [Bool.eq_iff_iff, StrLaws.found_iff, isSub_iff]
  have e1 : (⟨y.toArray⟩ : Str).length = y.length := by simp [Str.length]
  have e2 : (⟨x.toArray⟩ : Str).length = x.length := by simp [Str.length]
  rw [e1, e2]
  constructor
  · rintro ⟨i, h1, h2⟩
    rw [sub_at] at h2
    exact ⟨i, by omega, h2⟩
  · rintro ⟨i, h1, h2⟩
    have := (List.isPrefixOf_iff_prefix.mp h2).length_le
    rw [List.length_drop] at this
    exact ⟨i, by omega, by rw [sub_at]; exact h2⟩
theorem o_inS : OpR X (compareOp .In) (fun x y => rP X.K sub .inS [x, y]) := OpRw op_in_str (by
  rintro x y H Q ⟨ρ, h, ds, d, h', R, rs, hp, k⟩
  obtain ⟨d1, d2, rfl, r1, r2⟩ := rel2' rs
  cases d1 with
  | str a =>
    cases d2 with
    | str b =>
      simp only [Z.prim, Z.pInS, Option.some.injEq, Prod.mk.injEq] at hp
      obtain ⟨rfl, rfl⟩ := hp
      simp only [RelD] at r1 r2
      obtain ⟨rfl, _⟩ := r1
      obtain ⟨rfl, _⟩ := r2
      exact ⟨_, _, rfl, rfl, k ρ H _ .refl R (by simp only [RelD]; rw [occ_sub])⟩
    | _ => simp [Z.prim, Z.pInS] at hp
  | _ => simp [Z.prim, Z.pInS] at hp)
theorem isB_inS {p : Z.Prim} (hp : p = .inS ∨ ∃ t, p = .tin t) : ∀ ds h d h', Z.prim sub p ds h = some (d, h') → ∃ c, d = .bl c := by
  intro ds h d h' q
  rcases hp with rfl | ⟨t, rfl⟩
  · simp only [Z.prim] at q
    unfold Z.pInS at q
    split at q
    · simp only [Option.some.injEq, Prod.mk.injEq] at q
      exact ⟨_, q.1.symm⟩
    · cases q
  · simp only [Z.prim] at q
    unfold Z.pTin at q
    split at q
    · simp only [Option.some.injEq, Prod.mk.injEq] at q
      exact ⟨_, q.1.symm⟩
    · cases q
end
end ZS
set_option linter.all false
set_option maxRecDepth 100000
set_option maxHeartbeats 4000000
namespace ZS
open PySem PySem.Spec PyProof.Rows L2
variable [R0]
structure FunD (K : PySem.W.Frag) (x qual : Str) (st : Stmt) (f T : Addr) (fd : FuncData) : Prop where
  ex : ∃ (oc : Value) (od : Option Addr) (kV doc pm : Value) (an : Option Addr) (cdv ct : Value) (osl : Array (Option Value)),
    fd = PySem.W.fnOf x qual (defArgs st) (defBody st) (defScope st) (.ref T) kV doc pm an cdv ct ∧ K.lookup f = some ⟨oc, od, .func fd, osl⟩ ∧ PySem.W.codeIn K cdv qual = true
  kp : PySem.W.keepIn K (.ref f) = true
theorem fund_mk {K : PySem.W.Frag} {x qual : Str} {st : Stmt} {f T : Addr} {oc : Value} {od an : Option Addr} {osl : Array (Option Value)} {kV doc pm cdv ct : Value} (l : K.lookup f = some ⟨oc, od, .func (PySem.W.fnOf x qual (defArgs st) (defBody st) (defScope st) (.ref T) kV doc pm an cdv ct), osl⟩)
    (c : PySem.W.codeIn K cdv qual = true) (k : PySem.W.keepIn K (.ref f) = true) : FunD K x qual st f T (PySem.W.fnOf x qual (defArgs st) (defBody st) (defScope st) (.ref T) kV doc pm an cdv ct) := ⟨⟨oc, od, kV, doc, pm, an, cdv, ct, osl, rfl, l, c⟩, k⟩
theorem FunD.binds {K : PySem.W.Frag} {x qual : Str} {st : Stmt} {f T : Addr} {fd : FuncData} {ps : List Str} {ds : List Value} {oc : Value} {od : Option Addr} {its : Array Value} {n : Nat} {sl : Array (Option Value)} (F : FunD K x qual st f T fd) (hT : K.lookup T = some ⟨oc, od, .seq its n, sl⟩)
    (h : ∀ (kV doc pm : Value) (an : Option Addr) (cdv ct : Value) (us : List Value), (us ++ ds).length = ps.length → ∃ k, bindArgs (PySem.W.fnOf x qual (defArgs st) (defBody st) (defScope st) (.ref T) kV doc pm an cdv ct) ⟨us, []⟩ = (seqItems? (.ref T) >>= k) ∧ k (some its) = pure (ps.zip (us ++ ds))) : Binds K fd ps ds := by
  obtain ⟨oc, od, kV, doc, pm, an, cdv, ct, osl, rfl, lk, hcd⟩ := F.ex
  intro s us Y hl
  obtain ⟨k, e1, e2⟩ := h kV doc pm an cdv ct us hl
  exact .of_defaults rfl (Y T _ hT) rfl e1 e2
theorem def_okD {P : Program} {w : World} {K : PySem.W.Frag} {mg : Str → Option Value} {base : Heap} {sub : Nat → Nat → Bool} {Pg : List Z.Def} {x : Str} {st : Stmt} {f T : Addr} {fd : FuncData} {N ps : List Str} {k i : Nat} {df : Z.Def} (F : FunD K x x st f T fd) (S : FnScope N ps (defScope st)) (hi : Pg[i]? = some df) (hN : N.length = df.nl) (hp : ps.length = df.np)
    (J : ∀ (cdv : Value) (A : Around) (outer : List Env) (s : Shared) (H : Hp) (E : XK) (E' : Z.PX), Room k (A.deeper (envOfC x (defScope st) s.heap.objs.size f cdv)) → LSs (cxOf CX0 P w K mg base N x (defScope st) f cdv A outer s H E).nox sub (Z.wpCall sub Pg k) (Z.EF E') (defBody st) df.body) :
    FnOk P w K mg base CX0 (k + 1) f fd ps (spUp K (Z.wpCall sub Pg (k + 1)) i) := by
  obtain ⟨oc, od, kV, doc, pm, an, cdv, ct, osl, rfl, lk, hcd⟩ := F.ex
  refine fn_of lk hcd S (fun vs H Q E h => ?_) (fun A outer s H vs Q E hr h => ?_)
  · obtain ⟨ρ, h, ds, Q', E', R, r, w, kk⟩ := h
    simp only [Z.wpCall, hi] at w
    rw [← r.length, hp]; exact w.1
  · obtain ⟨ρ, h, ds, Q', E', R, r, w, kk⟩ := h
    simp only [Z.wpCall, hi] at w
    obtain ⟨t, q1, q2⟩ := body_ok (sub := sub) (Γ := Z.wpCall sub Pg k) (E := Z.EF E') (df := df) rfl hN w.1 (J cdv A outer s H E E' hr) R r w.2 kk
    exact ⟨t, q1.nox, q2⟩
end ZS
set_option linter.all false
set_option maxRecDepth 100000
set_option maxHeartbeats 4000000
namespace ZS
open PySem PySem.Spec PyProof.Rows L2
variable [R0]
noncomputable def GlC (K : PySem.W.Frag) (mg : Str → Option Value) (x : Str) (d : Z.D) : Prop := ∃ u, mg x = some u ∧ CstV K d u
noncomputable def GlT (K : PySem.W.Frag) (w : World) (mg : Str → Option Value) (x : Str) (t : List (Z.S × Z.D)) : Prop := ∃ a, mg x = some (.ref a) ∧ TabAt K w a t
noncomputable def FnD (K : PySem.W.Frag) (x : Str) (st : Stmt) (f : Addr) (fd : FuncData) : Prop := ∃ T, FunD K x x st f T fd
noncomputable def BnD (K : PySem.W.Frag) (fd : FuncData) (ps : List Str) (d : Z.D) : Prop := ∃ u, Binds K fd ps [u] ∧ CstV K d u
section
variable {X : Cx} {sub : Nat → Nat → Bool} {Γ : Z.Gam} {E : Z.PX}
theorem zgc {x : Str} {d : Z.D} {pos : Pos} (h : GlC X.K X.mg x d) (hg : Gl X x := by rfl) (hd : (x == ("__debug__" : Str)) = false := by decide) : LE X sub Γ E (.Name x pos) (.lit d) := by
  obtain ⟨u, hm, hc⟩ := h
  exact zgl hm hc hg hd
theorem zgin {x : Str} {t : List (Z.S × Z.D)} {e : Expr} {e' : Z.Ex} {pos pos' : Pos} (h : GlT X.K X.w X.mg x t) (he : LE X sub Γ E e e') (hg : Gl X x := by rfl) (hd : (x == ("__debug__" : Str)) = false := by decide) :
    LE X sub Γ E (.Compare e [.In] [.Name x pos'] pos) (.prim (.tin t) (.cons e' .nil)) := by
  obtain ⟨a, hm, T⟩ := h
  exact ztin hm T he hg hd
theorem zgget {x : Str} {t : List (Z.S × Z.D)} {e : Expr} {e' : Z.Ex} {pos pos' : Pos} (h : GlT X.K X.w X.mg x t) (he : LE X sub Γ E e e') (hg : Gl X x := by rfl) (hd : (x == ("__debug__" : Str)) = false := by decide) (hs : PlainIx e := by intro _ _; rfl) :
    LE X sub Γ E (.Subscript (.Name x pos') e pos) (.prim (.tget t) (.cons e' .nil)) := by
  obtain ⟨a, hm, T⟩ := h
  exact ztget hm T he hg hd hs
theorem zcallG {k i : Nat} {f : Addr} {fd : FuncData} {ps : List Str} {x : Str} {e : Expr} {es : List Expr} {es' : Z.Exs} {d : Z.D} {p pos : Pos} (hr : Room k X.A)
    (F : FnOk X.prog X.w X.K X.mg X.base CX0 k f fd ps (spUp X.K Γ i)) (hm : X.mg x = some (.ref f)) (hk : PySem.W.keepIn X.K (.ref f) = true) (hb : BnD X.K fd ps d) (ha : LA X sub Γ E (e :: es) es') (hg : Gl X x := by rfl)
    (hdb : (x == ("__debug__" : Str)) = false := by decide) (he : starEach (e :: es) X.env = (false, eval e X.env) :: starEach es X.env := by rfl) (hpl : (backTo pos (starEach es X.env)).any (·.1) = false := by rfl) :
    LE X sub Γ E (.Call (.Name x p) (e :: es) [] pos) (.call i es' [d]) := by
  obtain ⟨u, hb, hc⟩ := hb
  exact zcallD hr F hm hk hb hc ha hg hdb he hpl
end
theorem def_okG {P : Program} {w : World} {K : PySem.W.Frag} {mg : Str → Option Value} {base : Heap} {sub : Nat → Nat → Bool} {Pg : List Z.Def} {x : Str} {st : Stmt} {f : Addr} {fd : FuncData} {N ps : List Str} {k i : Nat} {df : Z.Def} (F : FnD K x st f fd) (S : FnScope N ps (defScope st)) (hi : Pg[i]? = some df) (hN : N.length = df.nl) (hp : ps.length = df.np)
    (J : ∀ (cdv : Value) (A : Around) (outer : List Env) (s : Shared) (H : Hp) (E : XK) (E' : Z.PX), Room k (A.deeper (envOfC x (defScope st) s.heap.objs.size f cdv)) → LSs (cxOf CX0 P w K mg base N x (defScope st) f cdv A outer s H E).nox sub (Z.wpCall sub Pg k) (Z.EF E') (defBody st) df.body) :
    FnOk P w K mg base CX0 (k + 1) f fd ps (spUp K (Z.wpCall sub Pg (k + 1)) i) := by
  obtain ⟨T, F⟩ := F
  exact def_okD F S hi hN hp J
end ZS
set_option linter.all false
namespace Z
section
variable {sub : Nat → Nat → Bool} {Γ : Gam} {E : PX} {K : En} {σ : Lo} {h : AH} {Q : PV}
theorem g_var {i : Nat} : wpE sub Γ E (.var i) σ h Q = (match σ[i]? with | some (some v) => Q v h | _ => False) := rfl
theorem g_lit {d : D} : wpE sub Γ E (.lit d) σ h Q = Q d h := rfl
theorem g_prim {p : Prim} {es : Exs} : wpE sub Γ E (.prim p es) σ h Q = wpEs sub Γ E es σ h (fun vs h1 => match prim sub p vs h1 with | some (v, h2) => Q v h2 | none => False) := rfl
theorem g_andV {a b : Ex} : wpE sub Γ E (.andV a b) σ h Q = wpE sub Γ E a σ h (fun x h1 => match x with | .bl true => wpE sub Γ E b σ h1 Q | .bl false => Q (.bl false) h1 | _ => False) := rfl
theorem g_orV {a b : Ex} : wpE sub Γ E (.orV a b) σ h Q = wpE sub Γ E a σ h (fun x h1 => match x with | .bl true => Q (.bl true) h1 | .bl false => wpE sub Γ E b σ h1 Q | _ => False) := rfl
theorem g_ite {c : Tx} {a b : Ex} : wpE sub Γ E (.ite c a b) σ h Q = wpT sub Γ E c σ h (fun k h1 => if k = true then wpE sub Γ E a σ h1 Q else wpE sub Γ E b σ h1 Q) := rfl
theorem g_call {f : Nat} {es : Exs} {ds : List D} : wpE sub Γ E (.call f es ds) σ h Q = wpEs sub Γ E es σ h (fun vs h1 => Γ f (vs ++ ds) h1 Q (EF E)) := rfl
theorem g_slc {a b c : Ex} : wpE sub Γ E (.slc a b c) σ h Q = wpE sub Γ E a σ h (fun x h1 => wpE sub Γ E b σ h1 fun y h2 => match y with
    | .int i => wpE sub Γ E c σ h2 fun z h3 => match z with
      | .int j => match pSlice x (some i) (some j) h3 with
        | some (v, h4) => Q v h4
        | none => False
      | _ => False
    | _ => False) := rfl
theorem g_mth {k : MK} {p : Prim} {o : Ex} {es : Exs} : wpE sub Γ E (.mth k p o es) σ h Q = wpE sub Γ E o σ h (fun x h1 => tyB h1 k x = true ∧ wpEs sub Γ E es σ h1 fun vs h2 => match prim sub p (x :: vs) h2 with
    | some (v, h3) => Q v h3
    | none => False) := rfl
theorem g_nil {Q : List D → AH → Prop} : wpEs sub Γ E .nil σ h Q = Q [] h := rfl
theorem g_cons {e : Ex} {es : Exs} {Q : List D → AH → Prop} : wpEs sub Γ E (.cons e es) σ h Q = wpE sub Γ E e σ h (fun v h1 => wpEs sub Γ E es σ h1 fun vs h2 => Q (v :: vs) h2) := rfl
theorem g_tru {e : Ex} {Q : Bool → AH → Prop} : wpT sub Γ E (.tru e) σ h Q = wpE sub Γ E e σ h (fun v h1 => match truthy h1 v with | some c => Q c h1 | none => False) := rfl
theorem g_and {a b : Tx} {Q : Bool → AH → Prop} : wpT sub Γ E (.and a b) σ h Q = wpT sub Γ E a σ h (fun c h1 => if c = true then wpT sub Γ E b σ h1 Q else Q false h1) := rfl
theorem g_or {a b : Tx} {Q : Bool → AH → Prop} : wpT sub Γ E (.or a b) σ h Q = wpT sub Γ E a σ h (fun c h1 => if c = true then Q true h1 else wpT sub Γ E b σ h1 Q) := rfl
theorem g_not {a : Tx} {Q : Bool → AH → Prop} : wpT sub Γ E (.not a) σ h Q = wpT sub Γ E a σ h (fun c h1 => Q (!c) h1) := rfl
theorem g_none {Q : Bool → AH → Prop} : wpC sub Γ E .none σ h Q = Q true h := rfl
theorem g_one {t : Tx} {Q : Bool → AH → Prop} : wpC sub Γ E (.one t) σ h Q = wpT sub Γ E t σ h Q := rfl
theorem g_expr {e : Ex} : wpS sub Γ E (.expr e) K σ h = wpE sub Γ E e σ h (fun _ h1 => K.nx σ h1) := rfl
theorem g_asg {i : Nat} {e : Ex} : wpS sub Γ E (.asg i e) K σ h = wpE sub Γ E e σ h (fun v h1 => K.nx (σ.set i (some v)) h1) := rfl
theorem g_unp {is : List Nat} {e : Ex} : wpS sub Γ E (.unp is e) K σ h = wpE sub Γ E e σ h (fun v h1 => match bindT is v σ with | some σ' => K.nx σ' h1 | none => False) := rfl
theorem g_setx {o i v : Ex} : wpS sub Γ E (.setx o i v) K σ h = wpE sub Γ E v σ h (fun x h1 => wpE sub Γ E o σ h1 fun y h2 => wpE sub Γ E i σ h2 fun z h3 => match prim sub .setx [y, z, x] h3 with
    | some (_, h4) => K.nx σ h4
    | none => False) := rfl
theorem g_ret {e : Ex} : wpS sub Γ E (.ret e) K σ h = wpE sub Γ E e σ h K.rt := rfl
theorem g_retN : wpS sub Γ E .retN K σ h = K.rt .non h := rfl
theorem g_ife {c : Tx} {a b : Sms} : wpS sub Γ E (.ife c a b) K σ h = wpT sub Γ E c σ h (fun k h1 => if k = true then wpSs sub Γ E a K σ h1 else wpSs sub Γ E b K σ h1) := rfl
theorem g_brk : wpS sub Γ E .brk K σ h = K.bk σ h := rfl
theorem g_cnt : wpS sub Γ E .cnt K σ h = K.ct σ h := rfl
theorem g_pass : wpS sub Γ E .pass K σ h = K.nx σ h := rfl
theorem g_snil : wpSs sub Γ E .nil K σ h = K.nx σ h := rfl
theorem g_scons {s : Sm} {ss : Sms} : wpSs sub Γ E (.cons s ss) K σ h = wpS sub Γ E s { K with nx := fun σ' h' => wpSs sub Γ E ss K σ' h' } σ h := rfl
section
variable {i j : Int} {s t : S} {x y v : D} {xs ys : List D} {a b n : Nat} {p q : Bool}
theorem q_idxT : prim sub .idx [.tup xs, .int i] h = (atI xs i).map fun v => (v, h) := rfl
theorem q_idxR : prim sub .idx [.rol xs, .int i] h = (atI xs i).map fun v => (v, h) := rfl
theorem q_idxS : prim sub .idx [.str s, .int i] h = (atI s i).map fun c => (.str [c], h) := rfl
theorem q_idxL (ha : h[a]? = some (.lst xs)) : prim sub .idx [.ref a, .int i] h = (atI xs i).map fun v => (v, h) := by
  show (match h[a]? with | some (.dct kvs) => _ | some (.lst xs) => (atI xs i).map fun v => (v, h) | _ => none) = _
  rw [ha]
theorem q_addS : prim sub .add [.str s, .str t] h = if s.length + t.length ≤ 16777216 then some (.str (s ++ t), h) else none := rfl
theorem q_slHS : prim sub .slH [.str s, .int i] h = some (.str (cut s none (some i)), h) := rfl
theorem q_slLS : prim sub .slL [.str s, .int i] h = some (.str (cut s (some i) none), h) := rfl
theorem q_eq : prim sub .eq [x, y] h = (eqH h x y).map fun b => (.bl (b != false), h) := rfl
theorem q_ne : prim sub .ne [x, y] h = (eqH h x y).map fun b => (.bl (b != true), h) := rfl
theorem q_lenR : prim sub .len [.rol xs] h = some (.int xs.length, h) := rfl
theorem q_lenT : prim sub .len [.tup xs] h = some (.int xs.length, h) := rfl
theorem q_lenS : prim sub .len [.str s] h = some (.int s.length, h) := rfl
theorem q_in_T : prim sub .in_ [x, .tup ys] h = (inDs x ys).map fun b => (.bl (b != false), h) := by cases x <;> rfl
theorem q_notin_L (ha : h[a]? = some (.lst ys)) : prim sub .notin [x, .ref a] h = (inDs x ys).map fun b => (.bl (b != true), h) := by
  show pIn true [x, .ref a] h = _
  unfold pIn
  simp only [ha]
theorem q_mkd : prim sub .mkdct [] h = some (.ref h.length, h ++ [.dct []]) := rfl
theorem q_mkt : prim sub .mktup xs h = if xs.length ≤ 16777216 then some (.tup xs, h) else none := rfl
theorem q_mkl : prim sub .mklst xs h = if xs.length ≤ 16777216 then some (.ref h.length, h ++ [.lst xs]) else none := rfl
theorem q_isN0 : prim sub .isN [.non] h = some (.bl true, h) := rfl
theorem q_notN0 : prim sub .notN [.non] h = some (.bl false, h) := rfl
theorem q_isN1 : prim sub .isN [.int i] h = some (.bl false, h) := rfl
theorem q_notN1 : prim sub .notN [.int i] h = some (.bl true, h) := rfl
theorem q_not1 : prim sub .not1 [.bl p] h = some (.bl (!p), h) := rfl
theorem q_max : prim sub .max2 [.int i, .int j] h = some (.int (if j > i then j else i), h) := rfl
theorem q_min : prim sub .min2 [.int i, .int j] h = some (.int (if j < i then j else i), h) := rfl
theorem q_shr : prim sub .shr [.int i, .int j] h = if 0 ≤ j then some (.int (i / 2 ^ j.toNat), h) else none := rfl
theorem q_band : prim sub .band [.int i, .int j] h = some (.int (bAnd i j), h) := rfl
theorem q_bor : prim sub .bor [.int i, .int j] h = some (.int (bOr i j), h) := rfl
theorem q_inv : prim sub .inv [.int i] h = some (.int (bNot i), h) := rfl
theorem q_bitlen : prim sub .bitlen [.int i] h = some (.int (bLen i), h) := rfl
theorem t_bl : truthy h (.bl p) = some p := rfl
theorem t_int : truthy h (.int i) = some (i != 0) := rfl
theorem t_lst (ha : h[a]? = some (.lst xs)) : truthy h (.ref a) = some (!xs.isEmpty) := by simp only [truthy, ha]
theorem y_lst (ha : h[a]? = some (.lst xs)) : tyB h .list (.ref a) = true := by simp only [tyB, ha]
theorem y_str : tyB h .str (.str s) = true := rfl
theorem y_int : tyB h .int (.int i) = true := rfl
theorem y_tup : tyB h .tuple (.tup xs) = true := rfl
end
theorem b_two {i j : Nat} {x y : D} : bindT [i, j] (.tup [x, y]) σ = some ((σ.set i (some x)).set j (some y)) := rfl
theorem wp_call {P : List Def} {d f : Nat} {vs : List D} {df : Def} (hf : P[f]? = some df) (hv : vs.length = df.np) (w : wpSs sub (wpCall sub P d) E df.body { nx := fun _ h => Q .non h, rt := Q } (vs.map some ++ List.replicate (df.nl - df.np) none) h) : wpCall sub P (d + 1) f vs h Q E := by
  simp only [wpCall, hf]
  exact ⟨hv, w⟩
end
theorem atI_lit {α : Type} {xs : List α} {n : Nat} : atI xs (n : Int) = xs[n]? := by
  unfold atI ixN
  by_cases hn : n < xs.length
  · rw [if_pos (Int.natCast_nonneg n), if_pos (by omega)]; simp
  · rw [if_pos (Int.natCast_nonneg n), if_neg (by omega), List.getElem?_eq_none (by omega)]; rfl
theorem atI_of {α : Type} {xs : List α} {i : Int} (h0 : 0 ≤ i) : atI xs i = xs[i.toNat]? := by
  obtain ⟨n, rfl⟩ := Int.eq_ofNat_of_zero_le h0
  rw [Int.toNat_natCast]; exact atI_lit
theorem atI_m1 {α : Type} {xs : List α} : atI xs (-1) = xs.getLast? := by
  unfold atI ixN
  rw [if_neg (by decide)]
  cases xs with
  | nil => rfl
  | cons x r =>
    rw [if_pos (by simp; omega)]
    simp only [Option.bind_some, List.getLast?_eq_getElem?]
    congr 1
    simp; omega
noncomputable def rl (n : Nat) (f : Nat → Int) : List D := (List.range n).map fun k => .int (f k)
theorem rl_len {n : Nat} {f : Nat → Int} : (rl n f).length = n := by simp [rl]
theorem rl_snoc {n : Nat} {f : Nat → Int} : rl n f ++ [.int (f n)] = rl (n + 1) f := by simp [rl, List.range_succ]
theorem rl_at {n : Nat} {f : Nat → Int} {i : Nat} (h : i < n) : (rl n f)[i]? = some (.int (f i)) := by simp [rl, h]
theorem rl_congr {n : Nat} {f g : Nat → Int} (h : ∀ k, k < n → f k = g k) : rl n f = rl n g := by
  unfold rl
  refine List.map_congr_left fun k hk => ?_
  rw [h k (List.mem_range.mp hk)]
theorem it_lst {h1 : AH} {a : Nat} {xs : List D} (e : h1[a]? = some (.lst xs)) : iterOf .val [.ref a] h1 = some (itList a) := by simp only [iterOf, ioV, ioR, ioE, ioZ, ioB, e]
theorem get_app {h l : AH} {n : Nat} {o : AO} (e : h[n]? = some o) : (h ++ l)[n]? = some o := by
  rw [List.getElem?_append_left (List.getElem?_eq_some_iff.mp e).1]; exact e
theorem get_new {h : AH} {o : AO} : (h ++ [o])[h.length]? = some o := by simp
theorem set_new {h : AH} {o o' : AO} : (h ++ [o]).set h.length o' = h ++ [o'] := by simp
theorem get_set {h : AH} {n : Nat} {o o' : AO} (e : h[n]? = some o) : (h.set n o')[n]? = some o' := by
  rw [List.getElem?_set_self (List.getElem?_eq_some_iff.mp e).1]
theorem get_set_ne {h : AH} {m n : Nat} {o o' : AO} (e : h[n]? = some o) (hne : m ≠ n) : (h.set m o')[n]? = some o := by
  rw [List.getElem?_set_ne hne]; exact e
theorem atI_rl {n : Nat} {f : Nat → Int} {z : Int} (h0 : 0 ≤ z) (h1 : z < n) : ∃ v : Int, atI (rl n f) z = some (.int v) := ⟨f z.toNat, by rw [atI_of h0, rl_at (by omega)]⟩
theorem atI_ex {α : Type} {xs : List α} {z : Int} (h0 : 0 ≤ z) (h1 : z < xs.length) : ∃ v, v ∈ xs ∧ atI xs z = some v := by
  have hl : z.toNat < xs.length := by omega
  exact ⟨xs[z.toNat], List.getElem_mem _, by rw [atI_of h0, List.getElem?_eq_getElem hl]⟩
theorem cut_len {α : Type} {xs : List α} {lo hi : Option Int} : (cut xs lo hi).length ≤ xs.length := by
  unfold cut; simp; omega
theorem pre_get {h h' : AH} {n : Nat} {o : AO} (p : h <+: h') (e : h[n]? = some o) : h'[n]? = some o := by
  obtain ⟨l, rfl⟩ := p; exact get_app e
theorem pre_app {h h' l : AH} (p : h <+: h') : h <+: h' ++ l := p.trans (List.prefix_append _ _)
theorem pre_set {h h' : AH} {r : Nat} {o : AO} (p : h <+: h') (hr : h.length ≤ r) : h <+: h'.set r o := by
  obtain ⟨l, rfl⟩ := p
  rw [List.set_append_right _ _ hr]
  exact List.prefix_append _ _
theorem pre_len {h h' : AH} (p : h <+: h') : h.length ≤ h'.length := p.length_le
theorem get_lt {h : AH} {n : Nat} {o : AO} (e : h[n]? = some o) : n < h.length := (List.getElem?_eq_some_iff.mp e).1
theorem pre_of {h h' l : AH} (p : h ++ l <+: h') : h <+: h' := (List.prefix_append h l).trans p
theorem eqN_str {n : Nat} {x y : S} : eqN n (.str x) (.str y) = some (x == y) := by cases n <;> rfl
theorem inDs_str {x : S} : ∀ {ss : List S}, inDs (.str x) (ss.map .str) = some (ss.contains x)
  | [] => rfl
  | y :: r => by
    simp only [List.map_cons, inDs, eqN_str, inDs_str (ss := r), List.contains_cons]
    have e : (y == x) = (x == y) := by rw [Bool.eq_iff_iff, beq_iff_eq, beq_iff_eq]; exact eq_comm
    rw [e]
theorem eqH_int {h : AH} {i j : Int} : eqH h (.int i) (.int j) = some (i == j) := rfl
theorem eqH_str {h : AH} {i j : S} : eqH h (.str i) (.str j) = some (i == j) := rfl
end Z
namespace Z
inductive Sn where
  | is (n : S) | nt (a : Sn) | an (a b : Sn) | or (a b : Sn)
noncomputable def sd : Sn → D
  | .is n => .tup [.str (tx "is"), .str n]
  | .nt a => .tup [.str (tx "not"), sd a]
  | .an a b => .tup [.str (tx "and"), sd a, sd b]
  | .or a b => .tup [.str (tx "or"), sd a, sd b]
noncomputable def nm : Sn → List S
  | .is n => [n]
  | .nt a => nm a
  | .an a b => nm a ++ nm b
  | .or a b => nm a ++ nm b
noncomputable def sz : Sn → Nat
  | .is _ => 1
  | .nt a => sz a + 1
  | .an a b => sz a + sz b + 1
  | .or a b => sz a + sz b + 1
noncomputable def kd (ks : List S) : List (KK × D) := ks.map fun k => (.inr k, .bl true)
section
variable {sub : Nat → Nat → Bool} {h : AH} {a : Nat} {xs : List D} {v : D}
theorem q_pop (ha : h[a]? = some (.lst (xs ++ [v]))) : prim sub .pop [.ref a] h = some (v, h.set a (.lst xs)) := by
  show (match h[a]? with | some (.lst xs) => _ | _ => none) = _
  rw [ha]; simp
theorem sl_rol {lo hi : Option Int} (hl : xs.length ≤ 16777216) : pSlice (.rol xs) lo hi h = some (.ref h.length, h ++ [.lst (cut xs lo hi)]) := if_pos (Nat.le_trans cut_len hl)
theorem cut_mem {α : Type} {xs : List α} {lo hi : Option Int} {v : α} (hv : v ∈ cut xs lo hi) : v ∈ xs := by
  unfold cut at hv
  exact List.mem_of_mem_drop (List.mem_of_mem_take hv)
end
end Z
namespace Z
noncomputable def dp : Sn → Nat
  | .is _ => 1
  | .nt a => dp a + 1
  | .an a b => max (dp a) (dp b) + 1
  | .or a b => max (dp a) (dp b) + 1
section
variable {sub : Nat → Nat → Bool} {h : AH}
end
end Z
local macro_rules
  | `(tactic| simp! only) => `(tactic| simp only [List.getElem?_cons_zero, List.getElem?_cons_succ, List.set_cons_zero, List.set_cons_succ, List.nil_append, List.append_nil, List.cons_append, List.map_cons, List.map_nil, Nat.sub_zero, Option.map_some, Option.map_none, List.length_cons, List.length_nil, if_true, if_false, Bool.not_true, Bool.not_false, Bool.bne_false, Bool.bne_true, and_self, true_and, and_true, List.replicate_succ, List.replicate_zero, Z.g_var, Z.g_lit, Z.g_prim, Z.g_andV, Z.g_orV, Z.g_ite, Z.g_call, Z.g_slc, Z.g_mth, Z.g_nil, Z.g_cons, Z.g_tru, Z.g_and, Z.g_or, Z.g_not, Z.g_none, Z.g_one, Z.g_expr, Z.g_asg, Z.g_unp, Z.g_setx, Z.g_ret, Z.g_retN, Z.g_ife, Z.g_brk, Z.g_cnt, Z.g_pass, Z.g_snil, Z.p_addI, Z.q_addS, Z.q_slHS, Z.q_slLS, Z.p_subI, Z.p_neg, Z.p_lt, Z.p_le, Z.p_gt, Z.p_ge, Z.q_idxT, Z.q_idxR, Z.q_idxS, Z.q_eq, Z.q_ne, Z.q_lenR, Z.q_lenT, Z.q_lenS, Z.q_in_T, Z.q_mkd, Z.q_mkt, Z.q_mkl, Z.q_isN0, Z.q_notN0, Z.q_isN1, Z.q_notN1, Z.q_not1, Z.q_max, Z.q_min, Z.q_shr, Z.q_band, Z.q_bor, Z.q_inv, Z.q_bitlen, Z.t_bl, Z.t_int, Z.y_str, Z.y_int, Z.y_tup, Z.b_two, Z.eqH_int, Z.eqH_str, Z.p_mod, Z.p_fdiv, Z.p_mulI, Z.p_mulI', reduceIte, Bool.false_eq_true, Int.reduceLT, Int.reduceLE, Nat.reduceLeDiff, Nat.reduceSub])
  | `(tactic| simp! only [$ls,*]) => `(tactic| simp only [List.getElem?_cons_zero, List.getElem?_cons_succ, List.set_cons_zero, List.set_cons_succ, List.nil_append, List.append_nil, List.cons_append, List.map_cons, List.map_nil, Nat.sub_zero, Option.map_some, Option.map_none, List.length_cons, List.length_nil, if_true, if_false, Bool.not_true, Bool.not_false, Bool.bne_false, Bool.bne_true, and_self, true_and, and_true, List.replicate_succ, List.replicate_zero, Z.g_var, Z.g_lit, Z.g_prim, Z.g_andV, Z.g_orV, Z.g_ite, Z.g_call, Z.g_slc, Z.g_mth, Z.g_nil, Z.g_cons, Z.g_tru, Z.g_and, Z.g_or, Z.g_not, Z.g_none, Z.g_one, Z.g_expr, Z.g_asg, Z.g_unp, Z.g_setx, Z.g_ret, Z.g_retN, Z.g_ife, Z.g_brk, Z.g_cnt, Z.g_pass, Z.g_snil, Z.p_addI, Z.q_addS, Z.q_slHS, Z.q_slLS, Z.p_subI, Z.p_neg, Z.p_lt, Z.p_le, Z.p_gt, Z.p_ge, Z.q_idxT, Z.q_idxR, Z.q_idxS, Z.q_eq, Z.q_ne, Z.q_lenR, Z.q_lenT, Z.q_lenS, Z.q_in_T, Z.q_mkd, Z.q_mkt, Z.q_mkl, Z.q_isN0, Z.q_notN0, Z.q_isN1, Z.q_notN1, Z.q_not1, Z.q_max, Z.q_min, Z.q_shr, Z.q_band, Z.q_bor, Z.q_inv, Z.q_bitlen, Z.t_bl, Z.t_int, Z.y_str, Z.y_int, Z.y_tup, Z.b_two, Z.eqH_int, Z.eqH_str, Z.p_mod, Z.p_fdiv, Z.p_mulI, Z.p_mulI', reduceIte, Bool.false_eq_true, Int.reduceLT, Int.reduceLE, Nat.reduceLeDiff, Nat.reduceSub, $ls,*])
set_option linter.all false
namespace Z
section
variable {sub : Nat → Nat → Bool} {P : List Def} {E : PX} {d : Nat}
end
end Z
namespace K01
open Z
section
variable {sub : Nat → Nat → Bool} {Γ : Gam} {E : PX} {K : En} {σ : Lo} {h : AH}
noncomputable def k_MOST_SIGNS : D := (.int 120)
noncomputable def k_PIECES : D := (.tup [(.str (tx "(")), (.str (tx ")")), (.str (tx " and ")), (.str (tx " or ")), (.str (tx "not "))])
noncomputable def k_LETTERS : D := (.str (tx "abcdefghijklmnopqrstuvwxyz"))
noncomputable def k_KEPT_WORDS : D := (.tup [(.str (tx "always")), (.str (tx "where")), (.str (tx "usually")), (.str (tx "not")), (.str (tx "and")), (.str (tx "or"))])
noncomputable def k_MOST_LETTERS : D := (.int 12)
noncomputable def k_JOINTS : D := (.tup [(.str (tx "not")), (.str (tx "and")), (.str (tx "or"))])
noncomputable def t_TIGHTER : List (S × D) := [((tx "and"), (.tup [(.str (tx "not")), (.str (tx "and"))])), ((tx "or"), (.tup [(.str (tx "not")), (.str (tx "and")), (.str (tx "or"))])), ((tx ")"), (.tup [(.str (tx "not")), (.str (tx "and")), (.str (tx "or"))]))]
noncomputable def t_TIGHTNESS : List (S × D) := [((tx "or"), (.int 0)), ((tx "and"), (.int 1)), ((tx "not"), (.int 2)), ((tx "is"), (.int 3))]
/-! 0 read_sentence(0 text, 1 row, 2 tokens, 3 sentence) -/
noncomputable def b_read_sentence_1 : Sms := .cons (.ret (.var 3)) .nil
theorem e_read_sentence_1 : wpSs sub Γ E b_read_sentence_1 K σ h = wpS sub Γ E (.ret (.var 3)) { K with nx := fun σ' h' => wpSs sub Γ E .nil K σ' h' } σ h := g_scons
noncomputable def b_read_sentence_2 : Sms := .cons (.rais 0 .nil) .nil
noncomputable def b_read_sentence_3 : Sms := .cons (.ife (.tru (.prim .isN (.cons (.var 3) .nil))) b_read_sentence_2 .nil) b_read_sentence_1
theorem e_read_sentence_3 : wpSs sub Γ E b_read_sentence_3 K σ h = wpS sub Γ E (.ife (.tru (.prim .isN (.cons (.var 3) .nil))) b_read_sentence_2 .nil) { K with nx := fun σ' h' => wpSs sub Γ E b_read_sentence_1 K σ' h' } σ h := g_scons
noncomputable def b_read_sentence_4 : Sms := .cons (.asg 3 (.ite (.tru (.prim .isN (.cons (.var 2) .nil))) (.lit .non) (.call 5 (.cons (.var 2) .nil) []))) b_read_sentence_3
theorem e_read_sentence_4 : wpSs sub Γ E b_read_sentence_4 K σ h = wpS sub Γ E (.asg 3 (.ite (.tru (.prim .isN (.cons (.var 2) .nil))) (.lit .non) (.call 5 (.cons (.var 2) .nil) []))) { K with nx := fun σ' h' => wpSs sub Γ E b_read_sentence_3 K σ' h' } σ h := g_scons
noncomputable def b_read_sentence_5 : Sms := .cons (.asg 2 (.call 1 (.cons (.var 0) .nil) [])) b_read_sentence_4
theorem e_read_sentence_5 : wpSs sub Γ E b_read_sentence_5 K σ h = wpS sub Γ E (.asg 2 (.call 1 (.cons (.var 0) .nil) [])) { K with nx := fun σ' h' => wpSs sub Γ E b_read_sentence_4 K σ' h' } σ h := g_scons
noncomputable def b_read_sentence_6 : Sms := .cons (.rais 0 .nil) .nil
noncomputable def b_read_sentence_7 : Sms := .cons (.ife (.tru (.prim .gt (.cons (.prim .len (.cons (.var 0) .nil)) (.cons (.lit k_MOST_SIGNS) .nil)))) b_read_sentence_6 .nil) b_read_sentence_5
theorem e_read_sentence_7 : wpSs sub Γ E b_read_sentence_7 K σ h = wpS sub Γ E (.ife (.tru (.prim .gt (.cons (.prim .len (.cons (.var 0) .nil)) (.cons (.lit k_MOST_SIGNS) .nil)))) b_read_sentence_6 .nil) { K with nx := fun σ' h' => wpSs sub Γ E b_read_sentence_5 K σ' h' } σ h := g_scons
noncomputable abbrev b_read_sentence : Sms := b_read_sentence_7
/-! 1 tokens_of(0 text, 1 tokens, 2 place, 3 piece) -/
noncomputable def b_tokens_of_1 : Sms := .cons (.ret (.var 1)) .nil
theorem e_tokens_of_1 : wpSs sub Γ E b_tokens_of_1 K σ h = wpS sub Γ E (.ret (.var 1)) { K with nx := fun σ' h' => wpSs sub Γ E .nil K σ' h' } σ h := g_scons
noncomputable def b_tokens_of_2 : Sms := .cons (.asg 2 (.prim .sub (.cons (.var 2) (.cons (.prim .neg (.cons (.prim .len (.cons (.var 3) .nil)) .nil)) .nil)))) .nil
theorem e_tokens_of_2 : wpSs sub Γ E b_tokens_of_2 K σ h = wpS sub Γ E (.asg 2 (.prim .sub (.cons (.var 2) (.cons (.prim .neg (.cons (.prim .len (.cons (.var 3) .nil)) .nil)) .nil)))) { K with nx := fun σ' h' => wpSs sub Γ E .nil K σ' h' } σ h := g_scons
noncomputable def b_tokens_of_3 : Sms := .cons (.expr (.mth .list .append (.var 1) (.cons (.mth .str .strip (.var 3) (.cons (.lit (.str (tx " "))) .nil)) .nil))) b_tokens_of_2
theorem e_tokens_of_3 : wpSs sub Γ E b_tokens_of_3 K σ h = wpS sub Γ E (.expr (.mth .list .append (.var 1) (.cons (.mth .str .strip (.var 3) (.cons (.lit (.str (tx " "))) .nil)) .nil))) { K with nx := fun σ' h' => wpSs sub Γ E b_tokens_of_2 K σ' h' } σ h := g_scons
noncomputable def b_tokens_of_4 : Sms := .cons (.ret (.lit .non)) .nil
noncomputable def b_tokens_of_5 : Sms := .cons (.ife (.tru (.prim .isN (.cons (.var 3) .nil))) b_tokens_of_4 .nil) b_tokens_of_3
theorem e_tokens_of_5 : wpSs sub Γ E b_tokens_of_5 K σ h = wpS sub Γ E (.ife (.tru (.prim .isN (.cons (.var 3) .nil))) b_tokens_of_4 .nil) { K with nx := fun σ' h' => wpSs sub Γ E b_tokens_of_3 K σ' h' } σ h := g_scons
noncomputable def b_tokens_of_6 : Sms := .cons (.asg 3 (.call 2 (.cons (.var 0) (.cons (.var 2) .nil)) [])) b_tokens_of_5
theorem e_tokens_of_6 : wpSs sub Γ E b_tokens_of_6 K σ h = wpS sub Γ E (.asg 3 (.call 2 (.cons (.var 0) (.cons (.var 2) .nil)) [])) { K with nx := fun σ' h' => wpSs sub Γ E b_tokens_of_5 K σ' h' } σ h := g_scons
noncomputable def b_tokens_of_7 : Sms := .cons (.whil (.tru (.prim .lt (.cons (.var 2) (.cons (.prim .len (.cons (.var 0) .nil)) .nil)))) b_tokens_of_6) b_tokens_of_1
theorem e_tokens_of_7 : wpSs sub Γ E b_tokens_of_7 K σ h = wpS sub Γ E (.whil (.tru (.prim .lt (.cons (.var 2) (.cons (.prim .len (.cons (.var 0) .nil)) .nil)))) b_tokens_of_6) { K with nx := fun σ' h' => wpSs sub Γ E b_tokens_of_1 K σ' h' } σ h := g_scons
noncomputable def b_tokens_of_8 : Sms := .cons (.asg 2 (.lit (.int 0))) b_tokens_of_7
theorem e_tokens_of_8 : wpSs sub Γ E b_tokens_of_8 K σ h = wpS sub Γ E (.asg 2 (.lit (.int 0))) { K with nx := fun σ' h' => wpSs sub Γ E b_tokens_of_7 K σ' h' } σ h := g_scons
noncomputable def b_tokens_of_9 : Sms := .cons (.asg 1 (.prim .mklst .nil)) b_tokens_of_8
theorem e_tokens_of_9 : wpSs sub Γ E b_tokens_of_9 K σ h = wpS sub Γ E (.asg 1 (.prim .mklst .nil)) { K with nx := fun σ' h' => wpSs sub Γ E b_tokens_of_8 K σ' h' } σ h := g_scons
noncomputable abbrev b_tokens_of : Sms := b_tokens_of_9
/-! 2 piece_at(0 text, 1 place, 2 piece, 3 word) -/
noncomputable def b_piece_at_1 : Sms := .cons (.ret (.ite (.tru (.call 4 (.cons (.var 3) .nil) [])) (.var 3) (.lit .non))) .nil
theorem e_piece_at_1 : wpSs sub Γ E b_piece_at_1 K σ h = wpS sub Γ E (.ret (.ite (.tru (.call 4 (.cons (.var 3) .nil) [])) (.var 3) (.lit .non))) { K with nx := fun σ' h' => wpSs sub Γ E .nil K σ' h' } σ h := g_scons
noncomputable def b_piece_at_2 : Sms := .cons (.asg 3 (.slc (.var 0) (.var 1) (.call 3 (.cons (.var 0) (.cons (.var 1) .nil)) []))) b_piece_at_1
theorem e_piece_at_2 : wpSs sub Γ E b_piece_at_2 K σ h = wpS sub Γ E (.asg 3 (.slc (.var 0) (.var 1) (.call 3 (.cons (.var 0) (.cons (.var 1) .nil)) []))) { K with nx := fun σ' h' => wpSs sub Γ E b_piece_at_1 K σ' h' } σ h := g_scons
noncomputable def b_piece_at_3 : Sms := .cons (.ret (.var 2)) .nil
theorem e_piece_at_3 : wpSs sub Γ E b_piece_at_3 K σ h = wpS sub Γ E (.ret (.var 2)) { K with nx := fun σ' h' => wpSs sub Γ E .nil K σ' h' } σ h := g_scons
noncomputable def b_piece_at_4 : Sms := .cons (.ife (.tru (.mth .str .starts3 (.var 0) (.cons (.var 2) (.cons (.var 1) .nil)))) b_piece_at_3 .nil) .nil
theorem e_piece_at_4 : wpSs sub Γ E b_piece_at_4 K σ h = wpS sub Γ E (.ife (.tru (.mth .str .starts3 (.var 0) (.cons (.var 2) (.cons (.var 1) .nil)))) b_piece_at_3 .nil) { K with nx := fun σ' h' => wpSs sub Γ E .nil K σ' h' } σ h := g_scons
noncomputable def b_piece_at_5 : Sms := .cons (.forr [2] .val (.cons (.lit k_PIECES) .nil) b_piece_at_4) b_piece_at_2
theorem e_piece_at_5 : wpSs sub Γ E b_piece_at_5 K σ h = wpS sub Γ E (.forr [2] .val (.cons (.lit k_PIECES) .nil) b_piece_at_4) { K with nx := fun σ' h' => wpSs sub Γ E b_piece_at_2 K σ' h' } σ h := g_scons
noncomputable abbrev b_piece_at : Sms := b_piece_at_5
/-! 3 word_end(0 text, 1 place) -/
noncomputable def b_word_end_1 : Sms := .cons (.ret (.var 1)) .nil
theorem e_word_end_1 : wpSs sub Γ E b_word_end_1 K σ h = wpS sub Γ E (.ret (.var 1)) { K with nx := fun σ' h' => wpSs sub Γ E .nil K σ' h' } σ h := g_scons
noncomputable def b_word_end_2 : Sms := .cons (.asg 1 (.prim .sub (.cons (.var 1) (.cons (.prim .neg (.cons (.lit (.int 1)) .nil)) .nil)))) .nil
theorem e_word_end_2 : wpSs sub Γ E b_word_end_2 K σ h = wpS sub Γ E (.asg 1 (.prim .sub (.cons (.var 1) (.cons (.prim .neg (.cons (.lit (.int 1)) .nil)) .nil)))) { K with nx := fun σ' h' => wpSs sub Γ E .nil K σ' h' } σ h := g_scons
noncomputable def b_word_end_3 : Sms := .cons (.whil (.and (.tru (.prim .lt (.cons (.var 1) (.cons (.prim .len (.cons (.var 0) .nil)) .nil)))) (.tru (.prim .inS (.cons (.prim .idx (.cons (.var 0) (.cons (.var 1) .nil))) (.cons (.lit k_LETTERS) .nil))))) b_word_end_2) b_word_end_1
theorem e_word_end_3 : wpSs sub Γ E b_word_end_3 K σ h = wpS sub Γ E (.whil (.and (.tru (.prim .lt (.cons (.var 1) (.cons (.prim .len (.cons (.var 0) .nil)) .nil)))) (.tru (.prim .inS (.cons (.prim .idx (.cons (.var 0) (.cons (.var 1) .nil))) (.cons (.lit k_LETTERS) .nil))))) b_word_end_2) { K with nx := fun σ' h' => wpSs sub Γ E b_word_end_1 K σ' h' } σ h := g_scons
noncomputable abbrev b_word_end : Sms := b_word_end_3
/-! 4 is_name(0 word) -/
noncomputable def b_is_name_1 : Sms := .cons (.ret (.andV (.chain .le .le (.lit (.int 1)) (.prim .len (.cons (.var 0) .nil)) (.lit k_MOST_LETTERS)) (.prim .notin (.cons (.var 0) (.cons (.lit k_KEPT_WORDS) .nil))))) .nil
theorem e_is_name_1 : wpSs sub Γ E b_is_name_1 K σ h = wpS sub Γ E (.ret (.andV (.chain .le .le (.lit (.int 1)) (.prim .len (.cons (.var 0) .nil)) (.lit k_MOST_LETTERS)) (.prim .notin (.cons (.var 0) (.cons (.lit k_KEPT_WORDS) .nil))))) { K with nx := fun σ' h' => wpSs sub Γ E .nil K σ' h' } σ h := g_scons
noncomputable abbrev b_is_name : Sms := b_is_name_1
/-! 5 put_together(0 tokens, 1 begun, 2 whole, 3 token, 4 stands_behind) -/
noncomputable def b_put_together_1 : Sms := .cons (.ret (.ite (.tru (.var 1)) (.lit .non) (.var 2))) .nil
theorem e_put_together_1 : wpSs sub Γ E b_put_together_1 K σ h = wpS sub Γ E (.ret (.ite (.tru (.var 1)) (.lit .non) (.var 2))) { K with nx := fun σ' h' => wpSs sub Γ E .nil K σ' h' } σ h := g_scons
noncomputable def b_put_together_2 : Sms := .cons (.asg 2 (.call 6 (.cons (.var 1) (.cons (.var 2) (.cons (.lit k_JOINTS) .nil))) [])) b_put_together_1
theorem e_put_together_2 : wpSs sub Γ E b_put_together_2 K σ h = wpS sub Γ E (.asg 2 (.call 6 (.cons (.var 1) (.cons (.var 2) (.cons (.lit k_JOINTS) .nil))) [])) { K with nx := fun σ' h' => wpSs sub Γ E b_put_together_1 K σ' h' } σ h := g_scons
noncomputable def b_put_together_3 : Sms := .cons (.ret (.lit .non)) .nil
noncomputable def b_put_together_4 : Sms := .cons (.ife (.tru (.prim .isN (.cons (.var 2) .nil))) b_put_together_3 .nil) b_put_together_2
theorem e_put_together_4 : wpSs sub Γ E b_put_together_4 K σ h = wpS sub Γ E (.ife (.tru (.prim .isN (.cons (.var 2) .nil))) b_put_together_3 .nil) { K with nx := fun σ' h' => wpSs sub Γ E b_put_together_2 K σ' h' } σ h := g_scons
noncomputable def b_put_together_5 : Sms := .cons (.expr (.mth .list .pop (.var 1) .nil)) .nil
theorem e_put_together_5 : wpSs sub Γ E b_put_together_5 K σ h = wpS sub Γ E (.expr (.mth .list .pop (.var 1) .nil)) { K with nx := fun σ' h' => wpSs sub Γ E .nil K σ' h' } σ h := g_scons
noncomputable def b_put_together_6 : Sms := .cons (.ret (.lit .non)) .nil
noncomputable def b_put_together_7 : Sms := .cons (.ife (.not (.tru (.var 1))) b_put_together_6 .nil) b_put_together_5
theorem e_put_together_7 : wpSs sub Γ E b_put_together_7 K σ h = wpS sub Γ E (.ife (.not (.tru (.var 1))) b_put_together_6 .nil) { K with nx := fun σ' h' => wpSs sub Γ E b_put_together_5 K σ' h' } σ h := g_scons
noncomputable def b_put_together_8 : Sms := .cons (.asg 2 (.lit .non)) .nil
theorem e_put_together_8 : wpSs sub Γ E b_put_together_8 K σ h = wpS sub Γ E (.asg 2 (.lit .non)) { K with nx := fun σ' h' => wpSs sub Γ E .nil K σ' h' } σ h := g_scons
noncomputable def b_put_together_9 : Sms := .cons (.expr (.mth .list .append (.var 1) (.cons (.prim .mktup (.cons (.var 3) (.cons (.var 2) .nil))) .nil))) b_put_together_8
theorem e_put_together_9 : wpSs sub Γ E b_put_together_9 K σ h = wpS sub Γ E (.expr (.mth .list .append (.var 1) (.cons (.prim .mktup (.cons (.var 3) (.cons (.var 2) .nil))) .nil))) { K with nx := fun σ' h' => wpSs sub Γ E b_put_together_8 K σ' h' } σ h := g_scons
noncomputable def b_put_together_10 : Sms := .cons (.expr (.mth .list .append (.var 1) (.cons (.prim .mktup (.cons (.var 3) .nil)) .nil))) .nil
theorem e_put_together_10 : wpSs sub Γ E b_put_together_10 K σ h = wpS sub Γ E (.expr (.mth .list .append (.var 1) (.cons (.prim .mktup (.cons (.var 3) .nil)) .nil))) { K with nx := fun σ' h' => wpSs sub Γ E .nil K σ' h' } σ h := g_scons
noncomputable def b_put_together_11 : Sms := .cons (.asg 2 (.prim .mktup (.cons (.lit (.str (tx "is"))) (.cons (.var 3) .nil)))) .nil
theorem e_put_together_11 : wpSs sub Γ E b_put_together_11 K σ h = wpS sub Γ E (.asg 2 (.prim .mktup (.cons (.lit (.str (tx "is"))) (.cons (.var 3) .nil)))) { K with nx := fun σ' h' => wpSs sub Γ E .nil K σ' h' } σ h := g_scons
noncomputable def b_put_together_12 : Sms := .cons (.ife (.or (.tru (.prim .eq (.cons (.var 3) (.cons (.lit (.str (tx "("))) .nil)))) (.tru (.prim .eq (.cons (.var 3) (.cons (.lit (.str (tx "not"))) .nil))))) b_put_together_10 b_put_together_11) .nil
theorem e_put_together_12 : wpSs sub Γ E b_put_together_12 K σ h = wpS sub Γ E (.ife (.or (.tru (.prim .eq (.cons (.var 3) (.cons (.lit (.str (tx "("))) .nil)))) (.tru (.prim .eq (.cons (.var 3) (.cons (.lit (.str (tx "not"))) .nil))))) b_put_together_10 b_put_together_11) { K with nx := fun σ' h' => wpSs sub Γ E .nil K σ' h' } σ h := g_scons
noncomputable def b_put_together_13 : Sms := .cons (.ife (.tru (.var 4)) b_put_together_9 b_put_together_12) .nil
theorem e_put_together_13 : wpSs sub Γ E b_put_together_13 K σ h = wpS sub Γ E (.ife (.tru (.var 4)) b_put_together_9 b_put_together_12) { K with nx := fun σ' h' => wpSs sub Γ E .nil K σ' h' } σ h := g_scons
noncomputable def b_put_together_14 : Sms := .cons (.ife (.tru (.prim .eq (.cons (.var 3) (.cons (.lit (.str (tx ")"))) .nil)))) b_put_together_7 b_put_together_13) .nil
theorem e_put_together_14 : wpSs sub Γ E b_put_together_14 K σ h = wpS sub Γ E (.ife (.tru (.prim .eq (.cons (.var 3) (.cons (.lit (.str (tx ")"))) .nil)))) b_put_together_7 b_put_together_13) { K with nx := fun σ' h' => wpSs sub Γ E .nil K σ' h' } σ h := g_scons
noncomputable def b_put_together_15 : Sms := .cons (.asg 2 (.call 6 (.cons (.var 1) (.cons (.var 2) (.cons (.prim (.tget t_TIGHTER) (.cons (.var 3) .nil)) .nil))) [])) .nil
theorem e_put_together_15 : wpSs sub Γ E b_put_together_15 K σ h = wpS sub Γ E (.asg 2 (.call 6 (.cons (.var 1) (.cons (.var 2) (.cons (.prim (.tget t_TIGHTER) (.cons (.var 3) .nil)) .nil))) [])) { K with nx := fun σ' h' => wpSs sub Γ E .nil K σ' h' } σ h := g_scons
noncomputable def b_put_together_16 : Sms := .cons (.ife (.tru (.var 4)) b_put_together_15 .nil) b_put_together_14
theorem e_put_together_16 : wpSs sub Γ E b_put_together_16 K σ h = wpS sub Γ E (.ife (.tru (.var 4)) b_put_together_15 .nil) { K with nx := fun σ' h' => wpSs sub Γ E b_put_together_14 K σ' h' } σ h := g_scons
noncomputable def b_put_together_17 : Sms := .cons (.ret (.lit .non)) .nil
noncomputable def b_put_together_18 : Sms := .cons (.ife (.tru (.prim .eq (.cons (.var 4) (.cons (.prim .isN (.cons (.var 2) .nil)) .nil)))) b_put_together_17 .nil) b_put_together_16
theorem e_put_together_18 : wpSs sub Γ E b_put_together_18 K σ h = wpS sub Γ E (.ife (.tru (.prim .eq (.cons (.var 4) (.cons (.prim .isN (.cons (.var 2) .nil)) .nil)))) b_put_together_17 .nil) { K with nx := fun σ' h' => wpSs sub Γ E b_put_together_16 K σ' h' } σ h := g_scons
noncomputable def b_put_together_19 : Sms := .cons (.asg 4 (.prim (.tin t_TIGHTER) (.cons (.var 3) .nil))) b_put_together_18
theorem e_put_together_19 : wpSs sub Γ E b_put_together_19 K σ h = wpS sub Γ E (.asg 4 (.prim (.tin t_TIGHTER) (.cons (.var 3) .nil))) { K with nx := fun σ' h' => wpSs sub Γ E b_put_together_18 K σ' h' } σ h := g_scons
noncomputable def b_put_together_20 : Sms := .cons (.forr [3] .val (.cons (.var 0) .nil) b_put_together_19) b_put_together_4
theorem e_put_together_20 : wpSs sub Γ E b_put_together_20 K σ h = wpS sub Γ E (.forr [3] .val (.cons (.var 0) .nil) b_put_together_19) { K with nx := fun σ' h' => wpSs sub Γ E b_put_together_4 K σ' h' } σ h := g_scons
noncomputable def b_put_together_21 : Sms := .cons (.asg 2 (.lit .non)) b_put_together_20
theorem e_put_together_21 : wpSs sub Γ E b_put_together_21 K σ h = wpS sub Γ E (.asg 2 (.lit .non)) { K with nx := fun σ' h' => wpSs sub Γ E b_put_together_20 K σ' h' } σ h := g_scons
noncomputable def b_put_together_22 : Sms := .cons (.asg 1 (.prim .mklst .nil)) b_put_together_21
theorem e_put_together_22 : wpSs sub Γ E b_put_together_22 K σ h = wpS sub Γ E (.asg 1 (.prim .mklst .nil)) { K with nx := fun σ' h' => wpSs sub Γ E b_put_together_21 K σ' h' } σ h := g_scons
noncomputable abbrev b_put_together : Sms := b_put_together_22
/-! 6 ended(0 begun, 1 whole, 2 joints) -/
noncomputable def b_ended_1 : Sms := .cons (.ret (.var 1)) .nil
theorem e_ended_1 : wpSs sub Γ E b_ended_1 K σ h = wpS sub Γ E (.ret (.var 1)) { K with nx := fun σ' h' => wpSs sub Γ E .nil K σ' h' } σ h := g_scons
noncomputable def b_ended_2 : Sms := .cons (.asg 1 (.prim .add (.cons (.mth .list .pop (.var 0) .nil) (.cons (.prim .mktup (.cons (.var 1) .nil)) .nil)))) .nil
theorem e_ended_2 : wpSs sub Γ E b_ended_2 K σ h = wpS sub Γ E (.asg 1 (.prim .add (.cons (.mth .list .pop (.var 0) .nil) (.cons (.prim .mktup (.cons (.var 1) .nil)) .nil)))) { K with nx := fun σ' h' => wpSs sub Γ E .nil K σ' h' } σ h := g_scons
noncomputable def b_ended_3 : Sms := .cons (.whil (.and (.tru (.var 0)) (.tru (.prim .in_ (.cons (.prim .idx (.cons (.prim .idx (.cons (.var 0) (.cons (.prim .neg (.cons (.lit (.int 1)) .nil)) .nil))) (.cons (.lit (.int 0)) .nil))) (.cons (.var 2) .nil))))) b_ended_2) b_ended_1
theorem e_ended_3 : wpSs sub Γ E b_ended_3 K σ h = wpS sub Γ E (.whil (.and (.tru (.var 0)) (.tru (.prim .in_ (.cons (.prim .idx (.cons (.prim .idx (.cons (.var 0) (.cons (.prim .neg (.cons (.lit (.int 1)) .nil)) .nil))) (.cons (.lit (.int 0)) .nil))) (.cons (.var 2) .nil))))) b_ended_2) { K with nx := fun σ' h' => wpSs sub Γ E b_ended_1 K σ' h' } σ h := g_scons
noncomputable abbrev b_ended : Sms := b_ended_3
/-! 7 shown_sentence(0 sentence) -/
noncomputable def b_shown_sentence_1 : Sms := .cons (.ret (.call 8 (.cons (.var 0) (.cons (.lit (.int 0)) .nil)) [])) .nil
theorem e_shown_sentence_1 : wpSs sub Γ E b_shown_sentence_1 K σ h = wpS sub Γ E (.ret (.call 8 (.cons (.var 0) (.cons (.lit (.int 0)) .nil)) [])) { K with nx := fun σ' h' => wpSs sub Γ E .nil K σ' h' } σ h := g_scons
noncomputable abbrev b_shown_sentence : Sms := b_shown_sentence_1
/-! 8 shown_part(0 sentence, 1 least, 2 kind, 3 tightness, 4 text, 5 left, 6 right) -/
noncomputable def b_shown_part_1 : Sms := .cons (.ret (.ite (.tru (.prim .ge (.cons (.var 3) (.cons (.var 1) .nil)))) (.var 4) (.prim .add (.cons (.prim .add (.cons (.prim .add (.cons (.lit (.str [])) (.cons (.lit (.str (tx "("))) .nil))) (.cons (.var 4) .nil))) (.cons (.lit (.str (tx ")"))) .nil))))) .nil
theorem e_shown_part_1 : wpSs sub Γ E b_shown_part_1 K σ h = wpS sub Γ E (.ret (.ite (.tru (.prim .ge (.cons (.var 3) (.cons (.var 1) .nil)))) (.var 4) (.prim .add (.cons (.prim .add (.cons (.prim .add (.cons (.lit (.str [])) (.cons (.lit (.str (tx "("))) .nil))) (.cons (.var 4) .nil))) (.cons (.lit (.str (tx ")"))) .nil))))) { K with nx := fun σ' h' => wpSs sub Γ E .nil K σ' h' } σ h := g_scons
noncomputable def b_shown_part_2 : Sms := .cons (.asg 4 (.prim .idx (.cons (.var 0) (.cons (.lit (.int 1)) .nil)))) .nil
theorem e_shown_part_2 : wpSs sub Γ E b_shown_part_2 K σ h = wpS sub Γ E (.asg 4 (.prim .idx (.cons (.var 0) (.cons (.lit (.int 1)) .nil)))) { K with nx := fun σ' h' => wpSs sub Γ E .nil K σ' h' } σ h := g_scons
noncomputable def b_shown_part_3 : Sms := .cons (.asg 4 (.prim .add (.cons (.lit (.str (tx "not "))) (.cons (.call 8 (.cons (.prim .idx (.cons (.var 0) (.cons (.lit (.int 1)) .nil))) (.cons (.var 3) .nil)) []) .nil)))) .nil
theorem e_shown_part_3 : wpSs sub Γ E b_shown_part_3 K σ h = wpS sub Γ E (.asg 4 (.prim .add (.cons (.lit (.str (tx "not "))) (.cons (.call 8 (.cons (.prim .idx (.cons (.var 0) (.cons (.lit (.int 1)) .nil))) (.cons (.var 3) .nil)) []) .nil)))) { K with nx := fun σ' h' => wpSs sub Γ E .nil K σ' h' } σ h := g_scons
noncomputable def b_shown_part_4 : Sms := .cons (.asg 4 (.prim .add (.cons (.prim .add (.cons (.prim .add (.cons (.prim .add (.cons (.prim .add (.cons (.lit (.str [])) (.cons (.var 5) .nil))) (.cons (.lit (.str (tx " "))) .nil))) (.cons (.var 2) .nil))) (.cons (.lit (.str (tx " "))) .nil))) (.cons (.var 6) .nil)))) .nil
theorem e_shown_part_4 : wpSs sub Γ E b_shown_part_4 K σ h = wpS sub Γ E (.asg 4 (.prim .add (.cons (.prim .add (.cons (.prim .add (.cons (.prim .add (.cons (.prim .add (.cons (.lit (.str [])) (.cons (.var 5) .nil))) (.cons (.lit (.str (tx " "))) .nil))) (.cons (.var 2) .nil))) (.cons (.lit (.str (tx " "))) .nil))) (.cons (.var 6) .nil)))) { K with nx := fun σ' h' => wpSs sub Γ E .nil K σ' h' } σ h := g_scons
noncomputable def b_shown_part_5 : Sms := .cons (.asg 6 (.call 8 (.cons (.prim .idx (.cons (.var 0) (.cons (.lit (.int 2)) .nil))) (.cons (.prim .add (.cons (.var 3) (.cons (.lit (.int 1)) .nil))) .nil)) [])) b_shown_part_4
theorem e_shown_part_5 : wpSs sub Γ E b_shown_part_5 K σ h = wpS sub Γ E (.asg 6 (.call 8 (.cons (.prim .idx (.cons (.var 0) (.cons (.lit (.int 2)) .nil))) (.cons (.prim .add (.cons (.var 3) (.cons (.lit (.int 1)) .nil))) .nil)) [])) { K with nx := fun σ' h' => wpSs sub Γ E b_shown_part_4 K σ' h' } σ h := g_scons
noncomputable def b_shown_part_6 : Sms := .cons (.asg 5 (.call 8 (.cons (.prim .idx (.cons (.var 0) (.cons (.lit (.int 1)) .nil))) (.cons (.var 3) .nil)) [])) b_shown_part_5
theorem e_shown_part_6 : wpSs sub Γ E b_shown_part_6 K σ h = wpS sub Γ E (.asg 5 (.call 8 (.cons (.prim .idx (.cons (.var 0) (.cons (.lit (.int 1)) .nil))) (.cons (.var 3) .nil)) [])) { K with nx := fun σ' h' => wpSs sub Γ E b_shown_part_5 K σ' h' } σ h := g_scons
noncomputable def b_shown_part_7 : Sms := .cons (.ife (.tru (.prim .eq (.cons (.var 2) (.cons (.lit (.str (tx "not"))) .nil)))) b_shown_part_3 b_shown_part_6) .nil
theorem e_shown_part_7 : wpSs sub Γ E b_shown_part_7 K σ h = wpS sub Γ E (.ife (.tru (.prim .eq (.cons (.var 2) (.cons (.lit (.str (tx "not"))) .nil)))) b_shown_part_3 b_shown_part_6) { K with nx := fun σ' h' => wpSs sub Γ E .nil K σ' h' } σ h := g_scons
noncomputable def b_shown_part_8 : Sms := .cons (.ife (.tru (.prim .eq (.cons (.var 2) (.cons (.lit (.str (tx "is"))) .nil)))) b_shown_part_2 b_shown_part_7) b_shown_part_1
theorem e_shown_part_8 : wpSs sub Γ E b_shown_part_8 K σ h = wpS sub Γ E (.ife (.tru (.prim .eq (.cons (.var 2) (.cons (.lit (.str (tx "is"))) .nil)))) b_shown_part_2 b_shown_part_7) { K with nx := fun σ' h' => wpSs sub Γ E b_shown_part_1 K σ' h' } σ h := g_scons
noncomputable def b_shown_part_9 : Sms := .cons (.asg 3 (.prim (.tget t_TIGHTNESS) (.cons (.var 2) .nil))) b_shown_part_8
theorem e_shown_part_9 : wpSs sub Γ E b_shown_part_9 K σ h = wpS sub Γ E (.asg 3 (.prim (.tget t_TIGHTNESS) (.cons (.var 2) .nil))) { K with nx := fun σ' h' => wpSs sub Γ E b_shown_part_8 K σ' h' } σ h := g_scons
noncomputable def b_shown_part_10 : Sms := .cons (.asg 2 (.prim .idx (.cons (.var 0) (.cons (.lit (.int 0)) .nil)))) b_shown_part_9
theorem e_shown_part_10 : wpSs sub Γ E b_shown_part_10 K σ h = wpS sub Γ E (.asg 2 (.prim .idx (.cons (.var 0) (.cons (.lit (.int 0)) .nil)))) { K with nx := fun σ' h' => wpSs sub Γ E b_shown_part_9 K σ' h' } σ h := g_scons
noncomputable abbrev b_shown_part : Sms := b_shown_part_10
/-! 9 _law_draws(0 cell, 1 count, 2 number, 3 drawn, 4 k) -/
noncomputable def b_law_draws_1 : Sms := .cons (.ret (.var 3)) .nil
theorem e_law_draws_1 : wpSs sub Γ E b_law_draws_1 K σ h = wpS sub Γ E (.ret (.var 3)) { K with nx := fun σ' h' => wpSs sub Γ E .nil K σ' h' } σ h := g_scons
noncomputable def b_law_draws_2 : Sms := .cons (.expr (.mth .list .append (.var 3) (.cons (.prim .fdiv (.cons (.var 2) (.cons (.lit (.int 13)) .nil))) .nil))) .nil
theorem e_law_draws_2 : wpSs sub Γ E b_law_draws_2 K σ h = wpS sub Γ E (.expr (.mth .list .append (.var 3) (.cons (.prim .fdiv (.cons (.var 2) (.cons (.lit (.int 13)) .nil))) .nil))) { K with nx := fun σ' h' => wpSs sub Γ E .nil K σ' h' } σ h := g_scons
noncomputable def b_law_draws_3 : Sms := .cons (.asg 2 (.prim .mod (.cons (.prim .mul (.cons (.var 2) (.cons (.lit (.int 48271)) .nil))) (.cons (.lit (.int 2147483647)) .nil)))) b_law_draws_2
theorem e_law_draws_3 : wpSs sub Γ E b_law_draws_3 K σ h = wpS sub Γ E (.asg 2 (.prim .mod (.cons (.prim .mul (.cons (.var 2) (.cons (.lit (.int 48271)) .nil))) (.cons (.lit (.int 2147483647)) .nil)))) { K with nx := fun σ' h' => wpSs sub Γ E b_law_draws_2 K σ' h' } σ h := g_scons
noncomputable def b_law_draws_4 : Sms := .cons (.forr [4] .rng (.cons (.var 1) .nil) b_law_draws_3) b_law_draws_1
theorem e_law_draws_4 : wpSs sub Γ E b_law_draws_4 K σ h = wpS sub Γ E (.forr [4] .rng (.cons (.var 1) .nil) b_law_draws_3) { K with nx := fun σ' h' => wpSs sub Γ E b_law_draws_1 K σ' h' } σ h := g_scons
noncomputable def b_law_draws_5 : Sms := .cons (.asg 3 (.prim .mklst .nil)) b_law_draws_4
theorem e_law_draws_5 : wpSs sub Γ E b_law_draws_5 K σ h = wpS sub Γ E (.asg 3 (.prim .mklst .nil)) { K with nx := fun σ' h' => wpSs sub Γ E b_law_draws_4 K σ' h' } σ h := g_scons
noncomputable def b_law_draws_6 : Sms := .cons (.asg 2 (.prim .mod (.cons (.prim .mul (.cons (.prim .add (.cons (.prim .mod (.cons (.var 0) (.cons (.lit (.int 2147483629)) .nil))) (.cons (.lit (.int 1)) .nil))) (.cons (.lit (.int 1103515245)) .nil))) (.cons (.lit (.int 2147483647)) .nil)))) b_law_draws_5
theorem e_law_draws_6 : wpSs sub Γ E b_law_draws_6 K σ h = wpS sub Γ E (.asg 2 (.prim .mod (.cons (.prim .mul (.cons (.prim .add (.cons (.prim .mod (.cons (.var 0) (.cons (.lit (.int 2147483629)) .nil))) (.cons (.lit (.int 1)) .nil))) (.cons (.lit (.int 1103515245)) .nil))) (.cons (.lit (.int 2147483647)) .nil)))) { K with nx := fun σ' h' => wpSs sub Γ E b_law_draws_5 K σ' h' } σ h := g_scons
noncomputable abbrev b_law_draws : Sms := b_law_draws_6
/-! 10 _law_cell_at(0 script, 1 k) -/
noncomputable def b_law_cell_at_1 : Sms := .cons (.ret (.lit (.int 0))) .nil
theorem e_law_cell_at_1 : wpSs sub Γ E b_law_cell_at_1 K σ h = wpS sub Γ E (.ret (.lit (.int 0))) { K with nx := fun σ' h' => wpSs sub Γ E .nil K σ' h' } σ h := g_scons
noncomputable def b_law_cell_at_2 : Sms := .cons (.ret (.prim .idx (.cons (.var 0) (.cons (.var 1) .nil)))) .nil
theorem e_law_cell_at_2 : wpSs sub Γ E b_law_cell_at_2 K σ h = wpS sub Γ E (.ret (.prim .idx (.cons (.var 0) (.cons (.var 1) .nil)))) { K with nx := fun σ' h' => wpSs sub Γ E .nil K σ' h' } σ h := g_scons
noncomputable def b_law_cell_at_3 : Sms := .cons (.ife (.tru (.prim .lt (.cons (.var 1) (.cons (.prim .len (.cons (.var 0) .nil)) .nil)))) b_law_cell_at_2 .nil) b_law_cell_at_1
theorem e_law_cell_at_3 : wpSs sub Γ E b_law_cell_at_3 K σ h = wpS sub Γ E (.ife (.tru (.prim .lt (.cons (.var 1) (.cons (.prim .len (.cons (.var 0) .nil)) .nil)))) b_law_cell_at_2 .nil) { K with nx := fun σ' h' => wpSs sub Γ E b_law_cell_at_1 K σ' h' } σ h := g_scons
noncomputable abbrev b_law_cell_at : Sms := b_law_cell_at_3
/-! 11 _law_fresh(0 number, 1 size, 2 letters, 3 name, 4 k) -/
noncomputable def b_law_fresh_1 : Sms := .cons (.ret (.var 3)) .nil
theorem e_law_fresh_1 : wpSs sub Γ E b_law_fresh_1 K σ h = wpS sub Γ E (.ret (.var 3)) { K with nx := fun σ' h' => wpSs sub Γ E .nil K σ' h' } σ h := g_scons
noncomputable def b_law_fresh_2 : Sms := .cons (.asg 3 (.prim .add (.cons (.var 3) (.cons (.prim .idx (.cons (.var 2) (.cons (.prim .mod (.cons (.prim .fdiv (.cons (.var 0) (.cons (.lit (.int 17)) .nil))) (.cons (.lit (.int 26)) .nil))) .nil))) .nil)))) .nil
theorem e_law_fresh_2 : wpSs sub Γ E b_law_fresh_2 K σ h = wpS sub Γ E (.asg 3 (.prim .add (.cons (.var 3) (.cons (.prim .idx (.cons (.var 2) (.cons (.prim .mod (.cons (.prim .fdiv (.cons (.var 0) (.cons (.lit (.int 17)) .nil))) (.cons (.lit (.int 26)) .nil))) .nil))) .nil)))) { K with nx := fun σ' h' => wpSs sub Γ E .nil K σ' h' } σ h := g_scons
noncomputable def b_law_fresh_3 : Sms := .cons (.asg 0 (.prim .mod (.cons (.prim .add (.cons (.prim .mul (.cons (.var 0) (.cons (.lit (.int 69621)) .nil))) (.cons (.lit (.int 1)) .nil))) (.cons (.lit (.int 2147483647)) .nil)))) b_law_fresh_2
theorem e_law_fresh_3 : wpSs sub Γ E b_law_fresh_3 K σ h = wpS sub Γ E (.asg 0 (.prim .mod (.cons (.prim .add (.cons (.prim .mul (.cons (.var 0) (.cons (.lit (.int 69621)) .nil))) (.cons (.lit (.int 1)) .nil))) (.cons (.lit (.int 2147483647)) .nil)))) { K with nx := fun σ' h' => wpSs sub Γ E b_law_fresh_2 K σ' h' } σ h := g_scons
noncomputable def b_law_fresh_4 : Sms := .cons (.forr [4] .rng (.cons (.var 1) .nil) b_law_fresh_3) b_law_fresh_1
theorem e_law_fresh_4 : wpSs sub Γ E b_law_fresh_4 K σ h = wpS sub Γ E (.forr [4] .rng (.cons (.var 1) .nil) b_law_fresh_3) { K with nx := fun σ' h' => wpSs sub Γ E b_law_fresh_1 K σ' h' } σ h := g_scons
noncomputable def b_law_fresh_5 : Sms := .cons (.asg 3 (.lit (.str (tx "")))) b_law_fresh_4
theorem e_law_fresh_5 : wpSs sub Γ E b_law_fresh_5 K σ h = wpS sub Γ E (.asg 3 (.lit (.str (tx "")))) { K with nx := fun σ' h' => wpSs sub Γ E b_law_fresh_4 K σ' h' } σ h := g_scons
noncomputable def b_law_fresh_6 : Sms := .cons (.asg 2 (.lit (.str (tx "abcdefghijklmnopqrstuvwxyz")))) b_law_fresh_5
theorem e_law_fresh_6 : wpSs sub Γ E b_law_fresh_6 K σ h = wpS sub Γ E (.asg 2 (.lit (.str (tx "abcdefghijklmnopqrstuvwxyz")))) { K with nx := fun σ' h' => wpSs sub Γ E b_law_fresh_5 K σ' h' } σ h := g_scons
noncomputable abbrev b_law_fresh : Sms := b_law_fresh_6
/-! 12 _law_names(0 cell, 1 size, 2 letters, 3 some, 4 drawn, 5 base, 6 at, 7 names, 8 k, 9 name, 10 sign) -/
noncomputable def b_law_names_1 : Sms := .cons (.ret (.var 7)) .nil
theorem e_law_names_1 : wpSs sub Γ E b_law_names_1 K σ h = wpS sub Γ E (.ret (.var 7)) { K with nx := fun σ' h' => wpSs sub Γ E .nil K σ' h' } σ h := g_scons
noncomputable def b_law_names_2 : Sms := .cons (.expr (.mth .list .append (.var 7) (.cons (.var 9) .nil))) .nil
theorem e_law_names_2 : wpSs sub Γ E b_law_names_2 K σ h = wpS sub Γ E (.expr (.mth .list .append (.var 7) (.cons (.var 9) .nil))) { K with nx := fun σ' h' => wpSs sub Γ E .nil K σ' h' } σ h := g_scons
noncomputable def b_law_names_3 : Sms := .cons (.ife (.tru (.prim .notin (.cons (.var 9) (.cons (.var 7) .nil)))) b_law_names_2 .nil) .nil
theorem e_law_names_3 : wpSs sub Γ E b_law_names_3 K σ h = wpS sub Γ E (.ife (.tru (.prim .notin (.cons (.var 9) (.cons (.var 7) .nil)))) b_law_names_2 .nil) { K with nx := fun σ' h' => wpSs sub Γ E .nil K σ' h' } σ h := g_scons
noncomputable def b_law_names_4 : Sms := .cons (.asg 9 (.prim .add (.cons (.var 9) (.cons (.lit (.str (tx "a"))) .nil)))) .nil
theorem e_law_names_4 : wpSs sub Γ E b_law_names_4 K σ h = wpS sub Γ E (.asg 9 (.prim .add (.cons (.var 9) (.cons (.lit (.str (tx "a"))) .nil)))) { K with nx := fun σ' h' => wpSs sub Γ E .nil K σ' h' } σ h := g_scons
noncomputable def b_law_names_5 : Sms := .cons (.ife (.tru (.prim .in_ (.cons (.var 9) (.cons (.prim .mktup (.cons (.lit (.str (tx "always"))) (.cons (.lit (.str (tx "where"))) (.cons (.lit (.str (tx "usually"))) (.cons (.lit (.str (tx "not"))) (.cons (.lit (.str (tx "and"))) (.cons (.lit (.str (tx "or"))) .nil))))))) .nil)))) b_law_names_4 .nil) b_law_names_3
theorem e_law_names_5 : wpSs sub Γ E b_law_names_5 K σ h = wpS sub Γ E (.ife (.tru (.prim .in_ (.cons (.var 9) (.cons (.prim .mktup (.cons (.lit (.str (tx "always"))) (.cons (.lit (.str (tx "where"))) (.cons (.lit (.str (tx "usually"))) (.cons (.lit (.str (tx "not"))) (.cons (.lit (.str (tx "and"))) (.cons (.lit (.str (tx "or"))) .nil))))))) .nil)))) b_law_names_4 .nil) { K with nx := fun σ' h' => wpSs sub Γ E b_law_names_3 K σ' h' } σ h := g_scons
noncomputable def b_law_names_6 : Sms := .cons (.asg 9 (.prim .idx (.cons (.var 3) (.cons (.prim .mod (.cons (.prim .add (.cons (.prim .idx (.cons (.var 4) (.cons (.lit (.int 23)) .nil))) (.cons (.prim .mul (.cons (.lit (.int 3)) (.cons (.var 8) .nil))) .nil))) (.cons (.lit (.int 16)) .nil))) .nil)))) .nil
theorem e_law_names_6 : wpSs sub Γ E b_law_names_6 K σ h = wpS sub Γ E (.asg 9 (.prim .idx (.cons (.var 3) (.cons (.prim .mod (.cons (.prim .add (.cons (.prim .idx (.cons (.var 4) (.cons (.lit (.int 23)) .nil))) (.cons (.prim .mul (.cons (.lit (.int 3)) (.cons (.var 8) .nil))) .nil))) (.cons (.lit (.int 16)) .nil))) .nil)))) { K with nx := fun σ' h' => wpSs sub Γ E .nil K σ' h' } σ h := g_scons
noncomputable def b_law_names_7 : Sms := .cons (.ife (.tru (.prim .eq (.cons (.prim .mod (.cons (.prim .idx (.cons (.var 4) (.cons (.lit (.int 20)) .nil))) (.cons (.lit (.int 4)) .nil))) (.cons (.lit (.int 2)) .nil)))) b_law_names_6 .nil) b_law_names_5
theorem e_law_names_7 : wpSs sub Γ E b_law_names_7 K σ h = wpS sub Γ E (.ife (.tru (.prim .eq (.cons (.prim .mod (.cons (.prim .idx (.cons (.var 4) (.cons (.lit (.int 20)) .nil))) (.cons (.lit (.int 4)) .nil))) (.cons (.lit (.int 2)) .nil)))) b_law_names_6 .nil) { K with nx := fun σ' h' => wpSs sub Γ E b_law_names_5 K σ' h' } σ h := g_scons
noncomputable def b_law_names_8 : Sms := .cons (.asg 9 (.prim .add (.cons (.prim .add (.cons (.prim .slH (.cons (.var 5) (.cons (.var 6) .nil))) (.cons (.var 10) .nil))) (.cons (.prim .slL (.cons (.var 5) (.cons (.prim .add (.cons (.var 6) (.cons (.lit (.int 1)) .nil))) .nil))) .nil)))) .nil
theorem e_law_names_8 : wpSs sub Γ E b_law_names_8 K σ h = wpS sub Γ E (.asg 9 (.prim .add (.cons (.prim .add (.cons (.prim .slH (.cons (.var 5) (.cons (.var 6) .nil))) (.cons (.var 10) .nil))) (.cons (.prim .slL (.cons (.var 5) (.cons (.prim .add (.cons (.var 6) (.cons (.lit (.int 1)) .nil))) .nil))) .nil)))) { K with nx := fun σ' h' => wpSs sub Γ E .nil K σ' h' } σ h := g_scons
noncomputable def b_law_names_9 : Sms := .cons (.asg 10 (.prim .idx (.cons (.var 2) (.cons (.prim .mod (.cons (.prim .add (.cons (.prim .idx (.cons (.var 4) (.cons (.lit (.int 21)) .nil))) (.cons (.prim .mul (.cons (.var 8) (.cons (.prim .idx (.cons (.prim .mklst (.cons (.lit (.int 1)) (.cons (.lit (.int 3)) (.cons (.lit (.int 5)) (.cons (.lit (.int 7)) (.cons (.lit (.int 9)) (.cons (.lit (.int 11)) .nil))))))) (.cons (.prim .mod (.cons (.prim .idx (.cons (.var 4) (.cons (.lit (.int 22)) .nil))) (.cons (.lit (.int 6)) .nil))) .nil))) .nil))) .nil))) (.cons (.lit (.int 26)) .nil))) .nil)))) b_law_names_8
theorem e_law_names_9 : wpSs sub Γ E b_law_names_9 K σ h = wpS sub Γ E (.asg 10 (.prim .idx (.cons (.var 2) (.cons (.prim .mod (.cons (.prim .add (.cons (.prim .idx (.cons (.var 4) (.cons (.lit (.int 21)) .nil))) (.cons (.prim .mul (.cons (.var 8) (.cons (.prim .idx (.cons (.prim .mklst (.cons (.lit (.int 1)) (.cons (.lit (.int 3)) (.cons (.lit (.int 5)) (.cons (.lit (.int 7)) (.cons (.lit (.int 9)) (.cons (.lit (.int 11)) .nil))))))) (.cons (.prim .mod (.cons (.prim .idx (.cons (.var 4) (.cons (.lit (.int 22)) .nil))) (.cons (.lit (.int 6)) .nil))) .nil))) .nil))) .nil))) (.cons (.lit (.int 26)) .nil))) .nil)))) { K with nx := fun σ' h' => wpSs sub Γ E b_law_names_8 K σ' h' } σ h := g_scons
noncomputable def b_law_names_10 : Sms := .cons (.ife (.tru (.prim .lt (.cons (.prim .mod (.cons (.prim .idx (.cons (.var 4) (.cons (.lit (.int 20)) .nil))) (.cons (.lit (.int 4)) .nil))) (.cons (.lit (.int 2)) .nil)))) b_law_names_9 .nil) b_law_names_7
theorem e_law_names_10 : wpSs sub Γ E b_law_names_10 K σ h = wpS sub Γ E (.ife (.tru (.prim .lt (.cons (.prim .mod (.cons (.prim .idx (.cons (.var 4) (.cons (.lit (.int 20)) .nil))) (.cons (.lit (.int 4)) .nil))) (.cons (.lit (.int 2)) .nil)))) b_law_names_9 .nil) { K with nx := fun σ' h' => wpSs sub Γ E b_law_names_7 K σ' h' } σ h := g_scons
noncomputable def b_law_names_11 : Sms := .cons (.asg 9 (.call 11 (.cons (.prim .idx (.cons (.var 4) (.cons (.prim .add (.cons (.lit (.int 3)) (.cons (.var 8) .nil))) .nil))) (.cons (.prim .add (.cons (.lit (.int 1)) (.cons (.prim .mod (.cons (.prim .fdiv (.cons (.prim .idx (.cons (.var 4) (.cons (.prim .add (.cons (.lit (.int 4)) (.cons (.var 8) .nil))) .nil))) (.cons (.lit (.int 5)) .nil))) (.cons (.lit (.int 12)) .nil))) .nil))) .nil)) [])) b_law_names_10
theorem e_law_names_11 : wpSs sub Γ E b_law_names_11 K σ h = wpS sub Γ E (.asg 9 (.call 11 (.cons (.prim .idx (.cons (.var 4) (.cons (.prim .add (.cons (.lit (.int 3)) (.cons (.var 8) .nil))) .nil))) (.cons (.prim .add (.cons (.lit (.int 1)) (.cons (.prim .mod (.cons (.prim .fdiv (.cons (.prim .idx (.cons (.var 4) (.cons (.prim .add (.cons (.lit (.int 4)) (.cons (.var 8) .nil))) .nil))) (.cons (.lit (.int 5)) .nil))) (.cons (.lit (.int 12)) .nil))) .nil))) .nil)) [])) { K with nx := fun σ' h' => wpSs sub Γ E b_law_names_10 K σ' h' } σ h := g_scons
noncomputable def b_law_names_12 : Sms := .cons (.forr [8] .rng (.cons (.var 1) .nil) b_law_names_11) b_law_names_1
theorem e_law_names_12 : wpSs sub Γ E b_law_names_12 K σ h = wpS sub Γ E (.forr [8] .rng (.cons (.var 1) .nil) b_law_names_11) { K with nx := fun σ' h' => wpSs sub Γ E b_law_names_1 K σ' h' } σ h := g_scons
noncomputable def b_law_names_13 : Sms := .cons (.asg 7 (.prim .mklst .nil)) b_law_names_12
theorem e_law_names_13 : wpSs sub Γ E b_law_names_13 K σ h = wpS sub Γ E (.asg 7 (.prim .mklst .nil)) { K with nx := fun σ' h' => wpSs sub Γ E b_law_names_12 K σ' h' } σ h := g_scons
noncomputable def b_law_names_14 : Sms := .cons (.asg 6 (.prim .mod (.cons (.prim .idx (.cons (.var 4) (.cons (.lit (.int 2)) .nil))) (.cons (.prim .len (.cons (.var 5) .nil)) .nil)))) b_law_names_13
theorem e_law_names_14 : wpSs sub Γ E b_law_names_14 K σ h = wpS sub Γ E (.asg 6 (.prim .mod (.cons (.prim .idx (.cons (.var 4) (.cons (.lit (.int 2)) .nil))) (.cons (.prim .len (.cons (.var 5) .nil)) .nil)))) { K with nx := fun σ' h' => wpSs sub Γ E b_law_names_13 K σ' h' } σ h := g_scons
noncomputable def b_law_names_15 : Sms := .cons (.asg 5 (.call 11 (.cons (.prim .idx (.cons (.var 4) (.cons (.lit (.int 0)) .nil))) (.cons (.prim .add (.cons (.lit (.int 1)) (.cons (.prim .mod (.cons (.prim .idx (.cons (.var 4) (.cons (.lit (.int 1)) .nil))) (.cons (.lit (.int 12)) .nil))) .nil))) .nil)) [])) b_law_names_14
theorem e_law_names_15 : wpSs sub Γ E b_law_names_15 K σ h = wpS sub Γ E (.asg 5 (.call 11 (.cons (.prim .idx (.cons (.var 4) (.cons (.lit (.int 0)) .nil))) (.cons (.prim .add (.cons (.lit (.int 1)) (.cons (.prim .mod (.cons (.prim .idx (.cons (.var 4) (.cons (.lit (.int 1)) .nil))) (.cons (.lit (.int 12)) .nil))) .nil))) .nil)) [])) { K with nx := fun σ' h' => wpSs sub Γ E b_law_names_14 K σ' h' } σ h := g_scons
noncomputable def b_law_names_16 : Sms := .cons (.asg 4 (.call 9 (.cons (.var 0) (.cons (.lit (.int 26)) .nil)) [])) b_law_names_15
theorem e_law_names_16 : wpSs sub Γ E b_law_names_16 K σ h = wpS sub Γ E (.asg 4 (.call 9 (.cons (.var 0) (.cons (.lit (.int 26)) .nil)) [])) { K with nx := fun σ' h' => wpSs sub Γ E b_law_names_15 K σ' h' } σ h := g_scons
noncomputable def b_law_names_17 : Sms := .cons (.asg 3 (.prim .add (.cons (.var 3) (.cons (.prim .mklst (.cons (.lit (.str (tx "is"))) (.cons (.lit (.str (tx "tell"))) .nil))) .nil)))) b_law_names_16
theorem e_law_names_17 : wpSs sub Γ E b_law_names_17 K σ h = wpS sub Γ E (.asg 3 (.prim .add (.cons (.var 3) (.cons (.prim .mklst (.cons (.lit (.str (tx "is"))) (.cons (.lit (.str (tx "tell"))) .nil))) .nil)))) { K with nx := fun σ' h' => wpSs sub Γ E b_law_names_16 K σ' h' } σ h := g_scons
noncomputable def b_law_names_18 : Sms := .cons (.asg 3 (.prim .mklst (.cons (.lit (.str (tx "nota"))) (.cons (.lit (.str (tx "no"))) (.cons (.lit (.str (tx "ot"))) (.cons (.lit (.str (tx "an"))) (.cons (.lit (.str (tx "nd"))) (.cons (.lit (.str (tx "ands"))) (.cons (.lit (.str (tx "o"))) (.cons (.lit (.str (tx "r"))) (.cons (.lit (.str (tx "orr"))) (.cons (.lit (.str (tx "alway"))) (.cons (.lit (.str (tx "wher"))) (.cons (.lit (.str (tx "usual"))) (.cons (.lit (.str (tx "notnot"))) (.cons (.lit (.str (tx "ask"))) .nil)))))))))))))))) b_law_names_17
theorem e_law_names_18 : wpSs sub Γ E b_law_names_18 K σ h = wpS sub Γ E (.asg 3 (.prim .mklst (.cons (.lit (.str (tx "nota"))) (.cons (.lit (.str (tx "no"))) (.cons (.lit (.str (tx "ot"))) (.cons (.lit (.str (tx "an"))) (.cons (.lit (.str (tx "nd"))) (.cons (.lit (.str (tx "ands"))) (.cons (.lit (.str (tx "o"))) (.cons (.lit (.str (tx "r"))) (.cons (.lit (.str (tx "orr"))) (.cons (.lit (.str (tx "alway"))) (.cons (.lit (.str (tx "wher"))) (.cons (.lit (.str (tx "usual"))) (.cons (.lit (.str (tx "notnot"))) (.cons (.lit (.str (tx "ask"))) .nil)))))))))))))))) { K with nx := fun σ' h' => wpSs sub Γ E b_law_names_17 K σ' h' } σ h := g_scons
noncomputable def b_law_names_19 : Sms := .cons (.asg 2 (.lit (.str (tx "abcdefghijklmnopqrstuvwxyz")))) b_law_names_18
theorem e_law_names_19 : wpSs sub Γ E b_law_names_19 K σ h = wpS sub Γ E (.asg 2 (.lit (.str (tx "abcdefghijklmnopqrstuvwxyz")))) { K with nx := fun σ' h' => wpSs sub Γ E b_law_names_18 K σ' h' } σ h := g_scons
noncomputable abbrev b_law_names : Sms := b_law_names_19
/-! 13 _law_text(0 tree, 1 under, 2 level, 3 word, 4 text) -/
noncomputable def b_law_text_1 : Sms := .cons (.ret (.var 4)) .nil
theorem e_law_text_1 : wpSs sub Γ E b_law_text_1 K σ h = wpS sub Γ E (.ret (.var 4)) { K with nx := fun σ' h' => wpSs sub Γ E .nil K σ' h' } σ h := g_scons
noncomputable def b_law_text_2 : Sms := .cons (.ret (.prim .add (.cons (.prim .add (.cons (.lit (.str (tx "("))) (.cons (.var 4) .nil))) (.cons (.lit (.str (tx ")"))) .nil)))) .nil
theorem e_law_text_2 : wpSs sub Γ E b_law_text_2 K σ h = wpS sub Γ E (.ret (.prim .add (.cons (.prim .add (.cons (.lit (.str (tx "("))) (.cons (.var 4) .nil))) (.cons (.lit (.str (tx ")"))) .nil)))) { K with nx := fun σ' h' => wpSs sub Γ E .nil K σ' h' } σ h := g_scons
noncomputable def b_law_text_3 : Sms := .cons (.ife (.tru (.prim .lt (.cons (.var 2) (.cons (.var 1) .nil)))) b_law_text_2 .nil) b_law_text_1
theorem e_law_text_3 : wpSs sub Γ E b_law_text_3 K σ h = wpS sub Γ E (.ife (.tru (.prim .lt (.cons (.var 2) (.cons (.var 1) .nil)))) b_law_text_2 .nil) { K with nx := fun σ' h' => wpSs sub Γ E b_law_text_1 K σ' h' } σ h := g_scons
noncomputable def b_law_text_4 : Sms := .cons (.asg 4 (.prim .add (.cons (.prim .add (.cons (.call 13 (.cons (.prim .idx (.cons (.var 0) (.cons (.lit (.int 1)) .nil))) (.cons (.var 2) .nil)) []) (.cons (.var 3) .nil))) (.cons (.call 13 (.cons (.prim .idx (.cons (.var 0) (.cons (.lit (.int 2)) .nil))) (.cons (.prim .add (.cons (.var 2) (.cons (.lit (.int 1)) .nil))) .nil)) []) .nil)))) b_law_text_3
theorem e_law_text_4 : wpSs sub Γ E b_law_text_4 K σ h = wpS sub Γ E (.asg 4 (.prim .add (.cons (.prim .add (.cons (.call 13 (.cons (.prim .idx (.cons (.var 0) (.cons (.lit (.int 1)) .nil))) (.cons (.var 2) .nil)) []) (.cons (.var 3) .nil))) (.cons (.call 13 (.cons (.prim .idx (.cons (.var 0) (.cons (.lit (.int 2)) .nil))) (.cons (.prim .add (.cons (.var 2) (.cons (.lit (.int 1)) .nil))) .nil)) []) .nil)))) { K with nx := fun σ' h' => wpSs sub Γ E b_law_text_3 K σ' h' } σ h := g_scons
noncomputable def b_law_text_5 : Sms := .cons (.asg 3 (.lit (.str (tx " and ")))) .nil
theorem e_law_text_5 : wpSs sub Γ E b_law_text_5 K σ h = wpS sub Γ E (.asg 3 (.lit (.str (tx " and ")))) { K with nx := fun σ' h' => wpSs sub Γ E .nil K σ' h' } σ h := g_scons
noncomputable def b_law_text_6 : Sms := .cons (.asg 2 (.lit (.int 2))) b_law_text_5
theorem e_law_text_6 : wpSs sub Γ E b_law_text_6 K σ h = wpS sub Γ E (.asg 2 (.lit (.int 2))) { K with nx := fun σ' h' => wpSs sub Γ E b_law_text_5 K σ' h' } σ h := g_scons
noncomputable def b_law_text_7 : Sms := .cons (.ife (.tru (.prim .eq (.cons (.prim .idx (.cons (.var 0) (.cons (.lit (.int 0)) .nil))) (.cons (.lit (.str (tx "and"))) .nil)))) b_law_text_6 .nil) b_law_text_4
theorem e_law_text_7 : wpSs sub Γ E b_law_text_7 K σ h = wpS sub Γ E (.ife (.tru (.prim .eq (.cons (.prim .idx (.cons (.var 0) (.cons (.lit (.int 0)) .nil))) (.cons (.lit (.str (tx "and"))) .nil)))) b_law_text_6 .nil) { K with nx := fun σ' h' => wpSs sub Γ E b_law_text_4 K σ' h' } σ h := g_scons
noncomputable def b_law_text_8 : Sms := .cons (.asg 3 (.lit (.str (tx " or ")))) b_law_text_7
theorem e_law_text_8 : wpSs sub Γ E b_law_text_8 K σ h = wpS sub Γ E (.asg 3 (.lit (.str (tx " or ")))) { K with nx := fun σ' h' => wpSs sub Γ E b_law_text_7 K σ' h' } σ h := g_scons
noncomputable def b_law_text_9 : Sms := .cons (.asg 2 (.lit (.int 1))) b_law_text_8
theorem e_law_text_9 : wpSs sub Γ E b_law_text_9 K σ h = wpS sub Γ E (.asg 2 (.lit (.int 1))) { K with nx := fun σ' h' => wpSs sub Γ E b_law_text_8 K σ' h' } σ h := g_scons
noncomputable def b_law_text_10 : Sms := .cons (.ret (.prim .add (.cons (.lit (.str (tx "not "))) (.cons (.call 13 (.cons (.prim .idx (.cons (.var 0) (.cons (.lit (.int 1)) .nil))) (.cons (.lit (.int 3)) .nil)) []) .nil)))) .nil
theorem e_law_text_10 : wpSs sub Γ E b_law_text_10 K σ h = wpS sub Γ E (.ret (.prim .add (.cons (.lit (.str (tx "not "))) (.cons (.call 13 (.cons (.prim .idx (.cons (.var 0) (.cons (.lit (.int 1)) .nil))) (.cons (.lit (.int 3)) .nil)) []) .nil)))) { K with nx := fun σ' h' => wpSs sub Γ E .nil K σ' h' } σ h := g_scons
noncomputable def b_law_text_11 : Sms := .cons (.ife (.tru (.prim .eq (.cons (.prim .idx (.cons (.var 0) (.cons (.lit (.int 0)) .nil))) (.cons (.lit (.str (tx "not"))) .nil)))) b_law_text_10 .nil) b_law_text_9
theorem e_law_text_11 : wpSs sub Γ E b_law_text_11 K σ h = wpS sub Γ E (.ife (.tru (.prim .eq (.cons (.prim .idx (.cons (.var 0) (.cons (.lit (.int 0)) .nil))) (.cons (.lit (.str (tx "not"))) .nil)))) b_law_text_10 .nil) { K with nx := fun σ' h' => wpSs sub Γ E b_law_text_9 K σ' h' } σ h := g_scons
noncomputable def b_law_text_12 : Sms := .cons (.ret (.prim .idx (.cons (.var 0) (.cons (.lit (.int 1)) .nil)))) .nil
theorem e_law_text_12 : wpSs sub Γ E b_law_text_12 K σ h = wpS sub Γ E (.ret (.prim .idx (.cons (.var 0) (.cons (.lit (.int 1)) .nil)))) { K with nx := fun σ' h' => wpSs sub Γ E .nil K σ' h' } σ h := g_scons
noncomputable def b_law_text_13 : Sms := .cons (.ife (.tru (.prim .eq (.cons (.prim .idx (.cons (.var 0) (.cons (.lit (.int 0)) .nil))) (.cons (.lit (.str (tx "is"))) .nil)))) b_law_text_12 .nil) b_law_text_11
theorem e_law_text_13 : wpSs sub Γ E b_law_text_13 K σ h = wpS sub Γ E (.ife (.tru (.prim .eq (.cons (.prim .idx (.cons (.var 0) (.cons (.lit (.int 0)) .nil))) (.cons (.lit (.str (tx "is"))) .nil)))) b_law_text_12 .nil) { K with nx := fun σ' h' => wpSs sub Γ E b_law_text_11 K σ' h' } σ h := g_scons
noncomputable abbrev b_law_text : Sms := b_law_text_13
/-! 14 _law_grown(0 pool, 1 cell, 2 names, 3 drawn, 4 one, 5 other, 6 kind) -/
noncomputable def b_law_grown_1 : Sms := .cons (.ret (.prim .mktup (.cons (.prim .mktup (.cons (.var 6) (.cons (.prim .idx (.cons (.var 4) (.cons (.lit (.int 0)) .nil))) (.cons (.prim .idx (.cons (.var 5) (.cons (.lit (.int 0)) .nil))) .nil)))) (.cons (.prim .add (.cons (.prim .add (.cons (.prim .idx (.cons (.var 4) (.cons (.lit (.int 1)) .nil))) (.cons (.prim .idx (.cons (.var 5) (.cons (.lit (.int 1)) .nil))) .nil))) (.cons (.lit (.int 1)) .nil))) (.cons (.prim .add (.cons (.prim .max2 (.cons (.prim .idx (.cons (.var 4) (.cons (.lit (.int 2)) .nil))) (.cons (.prim .idx (.cons (.var 5) (.cons (.lit (.int 2)) .nil))) .nil))) (.cons (.lit (.int 1)) .nil))) .nil))))) .nil
theorem e_law_grown_1 : wpSs sub Γ E b_law_grown_1 K σ h = wpS sub Γ E (.ret (.prim .mktup (.cons (.prim .mktup (.cons (.var 6) (.cons (.prim .idx (.cons (.var 4) (.cons (.lit (.int 0)) .nil))) (.cons (.prim .idx (.cons (.var 5) (.cons (.lit (.int 0)) .nil))) .nil)))) (.cons (.prim .add (.cons (.prim .add (.cons (.prim .idx (.cons (.var 4) (.cons (.lit (.int 1)) .nil))) (.cons (.prim .idx (.cons (.var 5) (.cons (.lit (.int 1)) .nil))) .nil))) (.cons (.lit (.int 1)) .nil))) (.cons (.prim .add (.cons (.prim .max2 (.cons (.prim .idx (.cons (.var 4) (.cons (.lit (.int 2)) .nil))) (.cons (.prim .idx (.cons (.var 5) (.cons (.lit (.int 2)) .nil))) .nil))) (.cons (.lit (.int 1)) .nil))) .nil))))) { K with nx := fun σ' h' => wpSs sub Γ E .nil K σ' h' } σ h := g_scons
noncomputable def b_law_grown_2 : Sms := .cons (.unp [4, 5] (.prim .mktup (.cons (.var 5) (.cons (.var 4) .nil)))) .nil
theorem e_law_grown_2 : wpSs sub Γ E b_law_grown_2 K σ h = wpS sub Γ E (.unp [4, 5] (.prim .mktup (.cons (.var 5) (.cons (.var 4) .nil)))) { K with nx := fun σ' h' => wpSs sub Γ E .nil K σ' h' } σ h := g_scons
noncomputable def b_law_grown_3 : Sms := .cons (.ife (.tru (.prim .eq (.cons (.prim .mod (.cons (.prim .fdiv (.cons (.prim .idx (.cons (.var 3) (.cons (.lit (.int 0)) .nil))) (.cons (.lit (.int 3)) .nil))) (.cons (.lit (.int 2)) .nil))) (.cons (.lit (.int 0)) .nil)))) b_law_grown_2 .nil) b_law_grown_1
theorem e_law_grown_3 : wpSs sub Γ E b_law_grown_3 K σ h = wpS sub Γ E (.ife (.tru (.prim .eq (.cons (.prim .mod (.cons (.prim .fdiv (.cons (.prim .idx (.cons (.var 3) (.cons (.lit (.int 0)) .nil))) (.cons (.lit (.int 3)) .nil))) (.cons (.lit (.int 2)) .nil))) (.cons (.lit (.int 0)) .nil)))) b_law_grown_2 .nil) { K with nx := fun σ' h' => wpSs sub Γ E b_law_grown_1 K σ' h' } σ h := g_scons
noncomputable def b_law_grown_4 : Sms := .cons (.ret (.prim .mktup (.cons (.prim .mktup (.cons (.lit (.str (tx "not"))) (.cons (.prim .idx (.cons (.var 4) (.cons (.lit (.int 0)) .nil))) .nil))) (.cons (.prim .add (.cons (.prim .idx (.cons (.var 4) (.cons (.lit (.int 1)) .nil))) (.cons (.lit (.int 1)) .nil))) (.cons (.prim .add (.cons (.prim .idx (.cons (.var 4) (.cons (.lit (.int 2)) .nil))) (.cons (.lit (.int 1)) .nil))) .nil))))) .nil
theorem e_law_grown_4 : wpSs sub Γ E b_law_grown_4 K σ h = wpS sub Γ E (.ret (.prim .mktup (.cons (.prim .mktup (.cons (.lit (.str (tx "not"))) (.cons (.prim .idx (.cons (.var 4) (.cons (.lit (.int 0)) .nil))) .nil))) (.cons (.prim .add (.cons (.prim .idx (.cons (.var 4) (.cons (.lit (.int 1)) .nil))) (.cons (.lit (.int 1)) .nil))) (.cons (.prim .add (.cons (.prim .idx (.cons (.var 4) (.cons (.lit (.int 2)) .nil))) (.cons (.lit (.int 1)) .nil))) .nil))))) { K with nx := fun σ' h' => wpSs sub Γ E .nil K σ' h' } σ h := g_scons
noncomputable def b_law_grown_5 : Sms := .cons (.ife (.tru (.prim .eq (.cons (.var 6) (.cons (.lit (.str (tx "not"))) .nil)))) b_law_grown_4 .nil) b_law_grown_3
theorem e_law_grown_5 : wpSs sub Γ E b_law_grown_5 K σ h = wpS sub Γ E (.ife (.tru (.prim .eq (.cons (.var 6) (.cons (.lit (.str (tx "not"))) .nil)))) b_law_grown_4 .nil) { K with nx := fun σ' h' => wpSs sub Γ E b_law_grown_3 K σ' h' } σ h := g_scons
noncomputable def b_law_grown_6 : Sms := .cons (.ret (.var 5)) .nil
theorem e_law_grown_6 : wpSs sub Γ E b_law_grown_6 K σ h = wpS sub Γ E (.ret (.var 5)) { K with nx := fun σ' h' => wpSs sub Γ E .nil K σ' h' } σ h := g_scons
noncomputable def b_law_grown_7 : Sms := .cons (.ife (.tru (.prim .eq (.cons (.var 6) (.cons (.lit (.str (tx "is"))) .nil)))) b_law_grown_6 .nil) b_law_grown_5
theorem e_law_grown_7 : wpSs sub Γ E b_law_grown_7 K σ h = wpS sub Γ E (.ife (.tru (.prim .eq (.cons (.var 6) (.cons (.lit (.str (tx "is"))) .nil)))) b_law_grown_6 .nil) { K with nx := fun σ' h' => wpSs sub Γ E b_law_grown_5 K σ' h' } σ h := g_scons
noncomputable def b_law_grown_8 : Sms := .cons (.asg 6 (.prim .idx (.cons (.prim .mklst (.cons (.lit (.str (tx "not"))) (.cons (.lit (.str (tx "and"))) (.cons (.lit (.str (tx "or"))) (.cons (.lit (.str (tx "and"))) (.cons (.lit (.str (tx "or"))) (.cons (.lit (.str (tx "is"))) .nil))))))) (.cons (.prim .mod (.cons (.prim .idx (.cons (.var 3) (.cons (.lit (.int 5)) .nil))) (.cons (.lit (.int 6)) .nil))) .nil)))) b_law_grown_7
theorem e_law_grown_8 : wpSs sub Γ E b_law_grown_8 K σ h = wpS sub Γ E (.asg 6 (.prim .idx (.cons (.prim .mklst (.cons (.lit (.str (tx "not"))) (.cons (.lit (.str (tx "and"))) (.cons (.lit (.str (tx "or"))) (.cons (.lit (.str (tx "and"))) (.cons (.lit (.str (tx "or"))) (.cons (.lit (.str (tx "is"))) .nil))))))) (.cons (.prim .mod (.cons (.prim .idx (.cons (.var 3) (.cons (.lit (.int 5)) .nil))) (.cons (.lit (.int 6)) .nil))) .nil)))) { K with nx := fun σ' h' => wpSs sub Γ E b_law_grown_7 K σ' h' } σ h := g_scons
noncomputable def b_law_grown_9 : Sms := .cons (.asg 5 (.prim .idx (.cons (.var 0) (.cons (.prim .mod (.cons (.prim .idx (.cons (.var 3) (.cons (.lit (.int 4)) .nil))) (.cons (.prim .len (.cons (.var 0) .nil)) .nil))) .nil)))) .nil
theorem e_law_grown_9 : wpSs sub Γ E b_law_grown_9 K σ h = wpS sub Γ E (.asg 5 (.prim .idx (.cons (.var 0) (.cons (.prim .mod (.cons (.prim .idx (.cons (.var 3) (.cons (.lit (.int 4)) .nil))) (.cons (.prim .len (.cons (.var 0) .nil)) .nil))) .nil)))) { K with nx := fun σ' h' => wpSs sub Γ E .nil K σ' h' } σ h := g_scons
noncomputable def b_law_grown_10 : Sms := .cons (.ife (.tru (.prim .eq (.cons (.prim .mod (.cons (.prim .idx (.cons (.var 3) (.cons (.lit (.int 3)) .nil))) (.cons (.lit (.int 2)) .nil))) (.cons (.lit (.int 0)) .nil)))) b_law_grown_9 .nil) b_law_grown_8
theorem e_law_grown_10 : wpSs sub Γ E b_law_grown_10 K σ h = wpS sub Γ E (.ife (.tru (.prim .eq (.cons (.prim .mod (.cons (.prim .idx (.cons (.var 3) (.cons (.lit (.int 3)) .nil))) (.cons (.lit (.int 2)) .nil))) (.cons (.lit (.int 0)) .nil)))) b_law_grown_9 .nil) { K with nx := fun σ' h' => wpSs sub Γ E b_law_grown_8 K σ' h' } σ h := g_scons
noncomputable def b_law_grown_11 : Sms := .cons (.asg 5 (.prim .mktup (.cons (.prim .mktup (.cons (.lit (.str (tx "is"))) (.cons (.prim .idx (.cons (.var 2) (.cons (.prim .mod (.cons (.prim .idx (.cons (.var 3) (.cons (.lit (.int 2)) .nil))) (.cons (.prim .len (.cons (.var 2) .nil)) .nil))) .nil))) .nil))) (.cons (.lit (.int 1)) (.cons (.lit (.int 1)) .nil))))) b_law_grown_10
theorem e_law_grown_11 : wpSs sub Γ E b_law_grown_11 K σ h = wpS sub Γ E (.asg 5 (.prim .mktup (.cons (.prim .mktup (.cons (.lit (.str (tx "is"))) (.cons (.prim .idx (.cons (.var 2) (.cons (.prim .mod (.cons (.prim .idx (.cons (.var 3) (.cons (.lit (.int 2)) .nil))) (.cons (.prim .len (.cons (.var 2) .nil)) .nil))) .nil))) .nil))) (.cons (.lit (.int 1)) (.cons (.lit (.int 1)) .nil))))) { K with nx := fun σ' h' => wpSs sub Γ E b_law_grown_10 K σ' h' } σ h := g_scons
noncomputable def b_law_grown_12 : Sms := .cons (.asg 4 (.prim .idx (.cons (.var 0) (.cons (.prim .mod (.cons (.prim .idx (.cons (.var 3) (.cons (.lit (.int 1)) .nil))) (.cons (.prim .len (.cons (.var 0) .nil)) .nil))) .nil)))) .nil
theorem e_law_grown_12 : wpSs sub Γ E b_law_grown_12 K σ h = wpS sub Γ E (.asg 4 (.prim .idx (.cons (.var 0) (.cons (.prim .mod (.cons (.prim .idx (.cons (.var 3) (.cons (.lit (.int 1)) .nil))) (.cons (.prim .len (.cons (.var 0) .nil)) .nil))) .nil)))) { K with nx := fun σ' h' => wpSs sub Γ E .nil K σ' h' } σ h := g_scons
noncomputable def b_law_grown_13 : Sms := .cons (.ife (.tru (.prim .eq (.cons (.prim .mod (.cons (.prim .idx (.cons (.var 3) (.cons (.lit (.int 0)) .nil))) (.cons (.lit (.int 3)) .nil))) (.cons (.lit (.int 0)) .nil)))) b_law_grown_12 .nil) b_law_grown_11
theorem e_law_grown_13 : wpSs sub Γ E b_law_grown_13 K σ h = wpS sub Γ E (.ife (.tru (.prim .eq (.cons (.prim .mod (.cons (.prim .idx (.cons (.var 3) (.cons (.lit (.int 0)) .nil))) (.cons (.lit (.int 3)) .nil))) (.cons (.lit (.int 0)) .nil)))) b_law_grown_12 .nil) { K with nx := fun σ' h' => wpSs sub Γ E b_law_grown_11 K σ' h' } σ h := g_scons
noncomputable def b_law_grown_14 : Sms := .cons (.asg 4 (.prim .idx (.cons (.var 0) (.cons (.prim .neg (.cons (.lit (.int 1)) .nil)) .nil)))) b_law_grown_13
theorem e_law_grown_14 : wpSs sub Γ E b_law_grown_14 K σ h = wpS sub Γ E (.asg 4 (.prim .idx (.cons (.var 0) (.cons (.prim .neg (.cons (.lit (.int 1)) .nil)) .nil)))) { K with nx := fun σ' h' => wpSs sub Γ E b_law_grown_13 K σ' h' } σ h := g_scons
noncomputable def b_law_grown_15 : Sms := .cons (.asg 3 (.call 9 (.cons (.var 1) (.cons (.lit (.int 6)) .nil)) [])) b_law_grown_14
theorem e_law_grown_15 : wpSs sub Γ E b_law_grown_15 K σ h = wpS sub Γ E (.asg 3 (.call 9 (.cons (.var 1) (.cons (.lit (.int 6)) .nil)) [])) { K with nx := fun σ' h' => wpSs sub Γ E b_law_grown_14 K σ' h' } σ h := g_scons
noncomputable abbrev b_law_grown : Sms := b_law_grown_15
/-! 15 _law_same(0 found, 1 due, 2 k) -/
noncomputable def b_law_same_1 : Sms := .cons (.ret (.lit (.bl true))) .nil
theorem e_law_same_1 : wpSs sub Γ E b_law_same_1 K σ h = wpS sub Γ E (.ret (.lit (.bl true))) { K with nx := fun σ' h' => wpSs sub Γ E .nil K σ' h' } σ h := g_scons
noncomputable def b_law_same_2 : Sms := .cons (.ret (.lit (.bl false))) .nil
noncomputable def b_law_same_3 : Sms := .cons (.ife (.not (.tru (.call 15 (.cons (.prim .idx (.cons (.var 0) (.cons (.var 2) .nil))) (.cons (.prim .idx (.cons (.var 1) (.cons (.var 2) .nil))) .nil)) []))) b_law_same_2 .nil) .nil
theorem e_law_same_3 : wpSs sub Γ E b_law_same_3 K σ h = wpS sub Γ E (.ife (.not (.tru (.call 15 (.cons (.prim .idx (.cons (.var 0) (.cons (.var 2) .nil))) (.cons (.prim .idx (.cons (.var 1) (.cons (.var 2) .nil))) .nil)) []))) b_law_same_2 .nil) { K with nx := fun σ' h' => wpSs sub Γ E .nil K σ' h' } σ h := g_scons
noncomputable def b_law_same_4 : Sms := .cons (.forr [2] .rng (.cons (.prim .len (.cons (.var 1) .nil)) .nil) b_law_same_3) b_law_same_1
theorem e_law_same_4 : wpSs sub Γ E b_law_same_4 K σ h = wpS sub Γ E (.forr [2] .rng (.cons (.prim .len (.cons (.var 1) .nil)) .nil) b_law_same_3) { K with nx := fun σ' h' => wpSs sub Γ E b_law_same_1 K σ' h' } σ h := g_scons
noncomputable def b_law_same_5 : Sms := .cons (.ret (.lit (.bl false))) .nil
noncomputable def b_law_same_6 : Sms := .cons (.ife (.or (.not (.tru (.prim (.isi .tuple) (.cons (.var 0) .nil)))) (.tru (.prim .ne (.cons (.prim .len (.cons (.var 0) .nil)) (.cons (.prim .len (.cons (.var 1) .nil)) .nil))))) b_law_same_5 .nil) b_law_same_4
theorem e_law_same_6 : wpSs sub Γ E b_law_same_6 K σ h = wpS sub Γ E (.ife (.or (.not (.tru (.prim (.isi .tuple) (.cons (.var 0) .nil)))) (.tru (.prim .ne (.cons (.prim .len (.cons (.var 0) .nil)) (.cons (.prim .len (.cons (.var 1) .nil)) .nil))))) b_law_same_5 .nil) { K with nx := fun σ' h' => wpSs sub Γ E b_law_same_4 K σ' h' } σ h := g_scons
noncomputable def b_law_same_7 : Sms := .cons (.ret (.andV (.prim (.isi .str) (.cons (.var 0) .nil)) (.prim .eq (.cons (.var 0) (.cons (.var 1) .nil))))) .nil
theorem e_law_same_7 : wpSs sub Γ E b_law_same_7 K σ h = wpS sub Γ E (.ret (.andV (.prim (.isi .str) (.cons (.var 0) .nil)) (.prim .eq (.cons (.var 0) (.cons (.var 1) .nil))))) { K with nx := fun σ' h' => wpSs sub Γ E .nil K σ' h' } σ h := g_scons
noncomputable def b_law_same_8 : Sms := .cons (.ife (.tru (.prim (.isi .str) (.cons (.var 1) .nil))) b_law_same_7 .nil) b_law_same_6
theorem e_law_same_8 : wpSs sub Γ E b_law_same_8 K σ h = wpS sub Γ E (.ife (.tru (.prim (.isi .str) (.cons (.var 1) .nil))) b_law_same_7 .nil) { K with nx := fun σ' h' => wpSs sub Γ E b_law_same_6 K σ' h' } σ h := g_scons
noncomputable abbrev b_law_same : Sms := b_law_same_8
/-! 16 _law_read_again(0 text, 1 number, 2 due, 3 found) -/
noncomputable def b_law_read_again_1 : Sms := .cons (.ret (.call 15 (.cons (.var 3) (.cons (.var 2) .nil)) [])) .nil
theorem e_law_read_again_1 : wpSs sub Γ E b_law_read_again_1 K σ h = wpS sub Γ E (.ret (.call 15 (.cons (.var 3) (.cons (.var 2) .nil)) [])) { K with nx := fun σ' h' => wpSs sub Γ E .nil K σ' h' } σ h := g_scons
noncomputable def b_law_read_again_2 : Sms := .cons (.asg 3 (.call 0 (.cons (.var 0) .nil) [(.int 0)])) .nil
theorem e_law_read_again_2 : wpSs sub Γ E b_law_read_again_2 K σ h = wpS sub Γ E (.asg 3 (.call 0 (.cons (.var 0) .nil) [(.int 0)])) { K with nx := fun σ' h' => wpSs sub Γ E .nil K σ' h' } σ h := g_scons
noncomputable def b_law_read_again_3 : Sms := .cons (.asg 3 (.call 0 (.cons (.var 0) (.cons (.var 1) .nil)) [])) .nil
theorem e_law_read_again_3 : wpSs sub Γ E b_law_read_again_3 K σ h = wpS sub Γ E (.asg 3 (.call 0 (.cons (.var 0) (.cons (.var 1) .nil)) [])) { K with nx := fun σ' h' => wpSs sub Γ E .nil K σ' h' } σ h := g_scons
noncomputable def b_law_read_again_4 : Sms := .cons (.ife (.tru (.prim .eq (.cons (.prim .mod (.cons (.var 1) (.cons (.lit (.int 2)) .nil))) (.cons (.lit (.int 0)) .nil)))) b_law_read_again_2 b_law_read_again_3) b_law_read_again_1
theorem e_law_read_again_4 : wpSs sub Γ E b_law_read_again_4 K σ h = wpS sub Γ E (.ife (.tru (.prim .eq (.cons (.prim .mod (.cons (.var 1) (.cons (.lit (.int 2)) .nil))) (.cons (.lit (.int 0)) .nil)))) b_law_read_again_2 b_law_read_again_3) { K with nx := fun σ' h' => wpSs sub Γ E b_law_read_again_1 K σ' h' } σ h := g_scons
noncomputable def b_law_read_again_5 : Sms := .cons (.asg 3 (.lit .non)) b_law_read_again_4
theorem e_law_read_again_5 : wpSs sub Γ E b_law_read_again_5 K σ h = wpS sub Γ E (.asg 3 (.lit .non)) { K with nx := fun σ' h' => wpSs sub Γ E b_law_read_again_4 K σ' h' } σ h := g_scons
noncomputable abbrev b_law_read_again : Sms := b_law_read_again_5
/-! 17 law(0 script, 1 names, 2 pool, 3 cell, 4 new, 5 text, 6 shown) -/
noncomputable def b_law_1 : Sms := .cons (.ret (.lit (.bl true))) .nil
theorem e_law_1 : wpSs sub Γ E b_law_1 K σ h = wpS sub Γ E (.ret (.lit (.bl true))) { K with nx := fun σ' h' => wpSs sub Γ E .nil K σ' h' } σ h := g_scons
noncomputable def b_law_2 : Sms := .cons (.ret (.lit (.bl false))) .nil
noncomputable def b_law_3 : Sms := .cons (.ife (.and (.tru (.prim .le (.cons (.prim .len (.cons (.var 5) .nil)) (.cons (.lit (.int 120)) .nil)))) (.not (.tru (.call 16 (.cons (.var 5) (.cons (.prim .len (.cons (.var 2) .nil)) (.cons (.prim .idx (.cons (.var 4) (.cons (.lit (.int 0)) .nil))) .nil))) [])))) b_law_2 .nil) .nil
theorem e_law_3 : wpSs sub Γ E b_law_3 K σ h = wpS sub Γ E (.ife (.and (.tru (.prim .le (.cons (.prim .len (.cons (.var 5) .nil)) (.cons (.lit (.int 120)) .nil)))) (.not (.tru (.call 16 (.cons (.var 5) (.cons (.prim .len (.cons (.var 2) .nil)) (.cons (.prim .idx (.cons (.var 4) (.cons (.lit (.int 0)) .nil))) .nil))) [])))) b_law_2 .nil) { K with nx := fun σ' h' => wpSs sub Γ E .nil K σ' h' } σ h := g_scons
noncomputable def b_law_4 : Sms := .cons (.ret (.lit (.bl false))) .nil
noncomputable def b_law_5 : Sms := .cons (.ife (.or (.not (.tru (.prim (.isi .str) (.cons (.var 6) .nil)))) (.tru (.prim .ne (.cons (.var 6) (.cons (.var 5) .nil))))) b_law_4 .nil) b_law_3
theorem e_law_5 : wpSs sub Γ E b_law_5 K σ h = wpS sub Γ E (.ife (.or (.not (.tru (.prim (.isi .str) (.cons (.var 6) .nil)))) (.tru (.prim .ne (.cons (.var 6) (.cons (.var 5) .nil))))) b_law_4 .nil) { K with nx := fun σ' h' => wpSs sub Γ E b_law_3 K σ' h' } σ h := g_scons
noncomputable def b_law_6 : Sms := .cons (.asg 6 (.call 7 (.cons (.prim .idx (.cons (.var 4) (.cons (.lit (.int 0)) .nil))) .nil) [])) b_law_5
theorem e_law_6 : wpSs sub Γ E b_law_6 K σ h = wpS sub Γ E (.asg 6 (.call 7 (.cons (.prim .idx (.cons (.var 4) (.cons (.lit (.int 0)) .nil))) .nil) [])) { K with nx := fun σ' h' => wpSs sub Γ E b_law_5 K σ' h' } σ h := g_scons
noncomputable def b_law_7 : Sms := .cons (.asg 5 (.call 13 (.cons (.prim .idx (.cons (.var 4) (.cons (.lit (.int 0)) .nil))) (.cons (.lit (.int 1)) .nil)) [])) b_law_6
theorem e_law_7 : wpSs sub Γ E b_law_7 K σ h = wpS sub Γ E (.asg 5 (.call 13 (.cons (.prim .idx (.cons (.var 4) (.cons (.lit (.int 0)) .nil))) (.cons (.lit (.int 1)) .nil)) [])) { K with nx := fun σ' h' => wpSs sub Γ E b_law_6 K σ' h' } σ h := g_scons
noncomputable def b_law_8 : Sms := .cons (.expr (.mth .list .append (.var 2) (.cons (.var 4) .nil))) b_law_7
theorem e_law_8 : wpSs sub Γ E b_law_8 K σ h = wpS sub Γ E (.expr (.mth .list .append (.var 2) (.cons (.var 4) .nil))) { K with nx := fun σ' h' => wpSs sub Γ E b_law_7 K σ' h' } σ h := g_scons
noncomputable def b_law_9 : Sms := .cons (.ife (.and (.tru (.prim .le (.cons (.prim .idx (.cons (.var 4) (.cons (.lit (.int 1)) .nil))) (.cons (.lit (.int 120)) .nil)))) (.tru (.prim .le (.cons (.prim .idx (.cons (.var 4) (.cons (.lit (.int 2)) .nil))) (.cons (.lit (.int 40)) .nil))))) b_law_8 .nil) .nil
theorem e_law_9 : wpSs sub Γ E b_law_9 K σ h = wpS sub Γ E (.ife (.and (.tru (.prim .le (.cons (.prim .idx (.cons (.var 4) (.cons (.lit (.int 1)) .nil))) (.cons (.lit (.int 120)) .nil)))) (.tru (.prim .le (.cons (.prim .idx (.cons (.var 4) (.cons (.lit (.int 2)) .nil))) (.cons (.lit (.int 40)) .nil))))) b_law_8 .nil) { K with nx := fun σ' h' => wpSs sub Γ E .nil K σ' h' } σ h := g_scons
noncomputable def b_law_10 : Sms := .cons (.asg 4 (.call 14 (.cons (.var 2) (.cons (.var 3) (.cons (.var 1) .nil))) [])) b_law_9
theorem e_law_10 : wpSs sub Γ E b_law_10 K σ h = wpS sub Γ E (.asg 4 (.call 14 (.cons (.var 2) (.cons (.var 3) (.cons (.var 1) .nil))) [])) { K with nx := fun σ' h' => wpSs sub Γ E b_law_9 K σ' h' } σ h := g_scons
noncomputable def b_law_11 : Sms := .cons (.forr [3] .val (.cons (.prim .add (.cons (.prim .mklst (.cons (.lit (.int 0)) .nil)) (.cons (.slc (.var 0) (.lit (.int 1)) (.lit (.int 41))) .nil))) .nil) b_law_10) b_law_1
theorem e_law_11 : wpSs sub Γ E b_law_11 K σ h = wpS sub Γ E (.forr [3] .val (.cons (.prim .add (.cons (.prim .mklst (.cons (.lit (.int 0)) .nil)) (.cons (.slc (.var 0) (.lit (.int 1)) (.lit (.int 41))) .nil))) .nil) b_law_10) { K with nx := fun σ' h' => wpSs sub Γ E b_law_1 K σ' h' } σ h := g_scons
noncomputable def b_law_12 : Sms := .cons (.asg 2 (.prim .mklst (.cons (.prim .mktup (.cons (.prim .mktup (.cons (.lit (.str (tx "is"))) (.cons (.prim .idx (.cons (.var 1) (.cons (.lit (.int 0)) .nil))) .nil))) (.cons (.lit (.int 1)) (.cons (.lit (.int 1)) .nil)))) .nil))) b_law_11
theorem e_law_12 : wpSs sub Γ E b_law_12 K σ h = wpS sub Γ E (.asg 2 (.prim .mklst (.cons (.prim .mktup (.cons (.prim .mktup (.cons (.lit (.str (tx "is"))) (.cons (.prim .idx (.cons (.var 1) (.cons (.lit (.int 0)) .nil))) .nil))) (.cons (.lit (.int 1)) (.cons (.lit (.int 1)) .nil)))) .nil))) { K with nx := fun σ' h' => wpSs sub Γ E b_law_11 K σ' h' } σ h := g_scons
noncomputable def b_law_13 : Sms := .cons (.asg 1 (.call 12 (.cons (.call 10 (.cons (.var 0) (.cons (.lit (.int 0)) .nil)) []) (.cons (.lit (.int 6)) .nil)) [])) b_law_12
theorem e_law_13 : wpSs sub Γ E b_law_13 K σ h = wpS sub Γ E (.asg 1 (.call 12 (.cons (.call 10 (.cons (.var 0) (.cons (.lit (.int 0)) .nil)) []) (.cons (.lit (.int 6)) .nil)) [])) { K with nx := fun σ' h' => wpSs sub Γ E b_law_12 K σ' h' } σ h := g_scons
noncomputable abbrev b_law : Sms := b_law_13
end
noncomputable def P : List Def := [⟨2, 4, b_read_sentence⟩, ⟨1, 4, b_tokens_of⟩, ⟨2, 4, b_piece_at⟩, ⟨2, 2, b_word_end⟩, ⟨1, 1, b_is_name⟩, ⟨1, 5, b_put_together⟩, ⟨3, 3, b_ended⟩, ⟨1, 1, b_shown_sentence⟩, ⟨2, 7, b_shown_part⟩, ⟨2, 5, b_law_draws⟩, ⟨2, 2, b_law_cell_at⟩, ⟨2, 5, b_law_fresh⟩, ⟨2, 11, b_law_names⟩, ⟨2, 5, b_law_text⟩, ⟨3, 7, b_law_grown⟩, ⟨2, 3, b_law_same⟩, ⟨3, 4, b_law_read_again⟩, ⟨1, 7, b_law⟩]
end K01

set_option linter.all false
set_option maxHeartbeats 1000000
set_option maxRecDepth 10000
namespace K01
open Z
seal wpE wpEs wpT wpC wpS wpSs wpCall
noncomputable abbrev sb : Nat → Nat → Bool := fun _ _ => false
section
variable {d : Nat} {h : AH} {Q : PV} {E : PX}
noncomputable def lv : Sn → Nat
  | .is _ => 1
  | .nt a => lv a + 1
  | .an a b => max (lv a) (lv b) + 1
  | .or a b => max (lv a) (lv b) + 1
noncomputable def br (t l : Nat) (s : S) : S := if l ≤ t then s else tx "(" ++ s ++ tx ")"
noncomputable def sh : Sn → Nat → S
  | .is n, l => br 3 l n
  | .nt a, l => br 2 l (tx "not " ++ sh a 2)
  | .an a b, l => br 1 l (sh a 1 ++ tx " and " ++ sh b 2)
  | .or a b, l => br 0 l (sh a 0 ++ tx " or " ++ sh b 1)
noncomputable def L26 : S := tx "abcdefghijklmnopqrstuvwxyz"
noncomputable def KW : List S := [tx "always", tx "where", tx "usually", tx "not", tx "and", tx "or"]
structure GN (n : S) : Prop where
  lo : 1 ≤ n.length
  hi : n.length ≤ 12
  le : ∀ c ∈ n, c ∈ L26
  kw : n ∉ KW
theorem tx_op : tx "(" = [40] := by decide
theorem tx_cl : tx ")" = [41] := by decide
theorem tx_an : tx " and " = [32, 97, 110, 100, 32] := by decide
theorem tx_or : tx " or " = [32, 111, 114, 32] := by decide
theorem tx_nt : tx "not " = [110, 111, 116, 32] := by decide
theorem tx_not : tx "not" = [110, 111, 116] := by decide
theorem L26_eq : L26 = [97, 98, 99, 100, 101, 102, 103, 104, 105, 106, 107, 108, 109, 110, 111, 112, 113, 114, 115, 116, 117, 118, 119, 120, 121, 122] := by decide
theorem L26_rng {c : Nat} (hc : c ∈ L26) : 97 ≤ c ∧ c ≤ 122 := by
  rw [L26_eq] at hc
  simp only [List.mem_cons, List.not_mem_nil, or_false] at hc
  omega
theorem br_len {t l : Nat} {s : S} : (br t l s).length ≤ s.length + 2 := by
  unfold br
  split
  · omega
  · simp only [List.length_append, tx_op, tx_cl, List.length_cons, List.length_nil]; omega
theorem sh_len : ∀ {s : Sn} {l : Nat}, (∀ n ∈ nm s, GN n) → (sh s l).length ≤ 20 * sz s
  | .is n, l, g => by
    have := (g n (by simp [nm])).hi
    have := br_len (t := 3) (l := l) (s := n)
    simp only [sh, sz]; omega
  | .nt a, l, g => by
    have := sh_len (s := a) (l := 2) g
    have := br_len (t := 2) (l := l) (s := tx "not " ++ sh a 2)
    simp only [List.length_append, tx_nt, List.length_cons, List.length_nil] at this
    simp only [sh, sz, tx_nt]; omega
  | .an a b, l, g => by
    have := sh_len (s := a) (l := 1) (fun n h => g n (by simp [nm, h]))
    have := sh_len (s := b) (l := 2) (fun n h => g n (by simp [nm, h]))
    have := br_len (t := 1) (l := l) (s := sh a 1 ++ tx " and " ++ sh b 2)
    simp only [List.length_append, tx_an, List.length_cons, List.length_nil] at this
    simp only [sh, sz, tx_an]; omega
  | .or a b, l, g => by
    have := sh_len (s := a) (l := 0) (fun n h => g n (by simp [nm, h]))
    have := sh_len (s := b) (l := 1) (fun n h => g n (by simp [nm, h]))
    have := br_len (t := 0) (l := l) (s := sh a 0 ++ tx " or " ++ sh b 1)
    simp only [List.length_append, tx_or, List.length_cons, List.length_nil] at this
    simp only [sh, sz, tx_or]; omega
noncomputable def bp (t l : Nat) (ps : List S) : List S := if l ≤ t then ps else tx "(" :: (ps ++ [tx ")"])
noncomputable def pc : Sn → Nat → List S
  | .is n, l => bp 3 l [n]
  | .nt a, l => bp 2 l (tx "not " :: pc a 2)
  | .an a b, l => bp 1 l (pc a 1 ++ tx " and " :: pc b 2)
  | .or a b, l => bp 0 l (pc a 0 ++ tx " or " :: pc b 1)
theorem bp_br {t l : Nat} {ps : List S} : (bp t l ps).flatten = br t l ps.flatten := by
  unfold bp br
  split
  · rfl
  · simp
theorem pc_sh : ∀ {s : Sn} {l : Nat}, (pc s l).flatten = sh s l
  | .is n, l => by simp only [pc, sh, bp_br]; simp
  | .nt a, l => by simp only [pc, sh, bp_br, List.flatten_cons, pc_sh (s := a)]
  | .an a b, l => by simp only [pc, sh, bp_br, List.flatten_append, List.flatten_cons, pc_sh (s := a), pc_sh (s := b), List.append_assoc]
  | .or a b, l => by simp only [pc, sh, bp_br, List.flatten_append, List.flatten_cons, pc_sh (s := a), pc_sh (s := b), List.append_assoc]
noncomputable def NL (r : S) : Prop := ∀ c, r.head? = some c → c ∉ L26
noncomputable def PS : List S := [tx "(", tx ")", tx " and ", tx " or ", tx "not "]
inductive PG : List S → Prop
  | nil : PG []
  | pc {q : S} {qs : List S} : q ∈ PS → PG qs → PG (q :: qs)
  | nm {n : S} {qs : List S} : GN n → NL qs.flatten → PG qs → PG (n :: qs)
theorem nl_nil : NL [] := fun c e => by cases e
theorem nl_cons {c : Nat} {r : S} (h : c < 97) : NL (c :: r) := fun d e hd => by
  cases e
  have := L26_rng hd
  omega
theorem pg_bp {t l : Nat} {ps : List S} (k : ∀ qs, PG qs → NL qs.flatten → PG (ps ++ qs)) {qs : List S} (g : PG qs) (n : NL qs.flatten) : PG (bp t l ps ++ qs) := by
  unfold bp
  split
  · exact k qs g n
  · rw [List.cons_append, List.append_assoc]
    refine .pc (by simp [PS]) (k _ (.pc (by simp [PS]) g) ?_)
    rw [tx_cl]
    exact nl_cons (by omega)
theorem pg_pc : ∀ {s : Sn} {l : Nat}, (∀ n ∈ nm s, GN n) → ∀ qs, PG qs → NL qs.flatten → PG (pc s l ++ qs)
  | .is n, l, g, qs, a, b => by
    refine pg_bp (fun qs a b => ?_) a b
    exact .nm (g n (by simp [nm])) b a
  | .nt x, l, g, qs, a, b => by
    refine pg_bp (fun qs a b => ?_) a b
    exact .pc (by simp [PS]) (pg_pc (s := x) g qs a b)
  | .an x y, l, g, qs, a, b => by
    refine pg_bp (fun qs a b => ?_) a b
    rw [List.append_assoc]
    refine pg_pc (s := x) (fun n h => g n (by simp [nm, h])) _ (.pc (by simp [PS]) (pg_pc (s := y) (fun n h => g n (by simp [nm, h])) qs a b)) ?_
    rw [List.cons_append, List.flatten_cons, tx_an]
    exact nl_cons (by omega)
  | .or x y, l, g, qs, a, b => by
    refine pg_bp (fun qs a b => ?_) a b
    rw [List.append_assoc]
    refine pg_pc (s := x) (fun n h => g n (by simp [nm, h])) _ (.pc (by simp [PS]) (pg_pc (s := y) (fun n h => g n (by simp [nm, h])) qs a b)) ?_
    rw [List.cons_append, List.flatten_cons, tx_or]
    exact nl_cons (by omega)
theorem pg_ne {q : S} {qs : List S} (g : PG (q :: qs)) : q ≠ [] := by
  cases g with
  | pc h _ =>
    rintro rfl
    simp [PS, tx_op, tx_cl, tx_an, tx_or, tx_nt] at h
  | nm h _ _ =>
    rintro rfl
    have := h.lo
    simp at this
theorem pfx_name {n : S} {r : S} (g : GN n) (hr : NL r) {p : S} (hp : p ∈ PS) : p.isPrefixOf (n ++ r) = false := by
  obtain ⟨c, n', rfl⟩ : ∃ c n', n = c :: n' := by
    cases n with
    | nil => have := g.lo; simp at this
    | cons c n' => exact ⟨c, n', rfl⟩
  have hc := L26_rng (g.le c (by simp))
  have c1 : (40 == c) = false := by simp; omega
  have c2 : (41 == c) = false := by simp; omega
  have c3 : (32 == c) = false := by simp; omega
  simp only [PS, List.mem_cons, List.not_mem_nil, or_false] at hp
  rcases hp with rfl | rfl | rfl | rfl | rfl
  · simp only [tx_op, List.cons_append, List.isPrefixOf, c1, Bool.false_and]
  · simp only [tx_cl, List.cons_append, List.isPrefixOf, c2, Bool.false_and]
  · simp only [tx_an, List.cons_append, List.isPrefixOf, c3, Bool.false_and]
  · simp only [tx_or, List.cons_append, List.isPrefixOf, c3, Bool.false_and]
  · rw [Bool.eq_false_iff]
    intro e
    rw [List.isPrefixOf_iff_prefix] at e
    obtain ⟨t, e⟩ := e
    rw [tx_nt] at e
    -- n is a part of "not"
    have nol : ∀ {x : Nat} {r' : S}, r = x :: r' → x ∈ L26 → False := fun e1 hx => hr _ (by rw [e1]; rfl) hx
    have i1 : (111 : Nat) ∈ L26 := by rw [L26_eq]; decide
    have i2 : (116 : Nat) ∈ L26 := by rw [L26_eq]; decide
    have kw := g.kw
    have le := g.le
    rcases n' with _ | ⟨c2, _ | ⟨c3, _ | ⟨c4, n'⟩⟩⟩
    · simp only [List.cons_append, List.nil_append, List.cons.injEq] at e
      exact nol e.2.symm i1
    · simp only [List.cons_append, List.nil_append, List.cons.injEq] at e
      exact nol e.2.2.symm i2
    · simp only [List.cons_append, List.nil_append, List.cons.injEq] at e
      obtain ⟨rfl, rfl, rfl, e⟩ := e
      exact kw (by simp [KW, tx_not])
    · simp only [List.cons_append, List.nil_append, List.cons.injEq] at e
      obtain ⟨_, _, _, e4, _⟩ := e
      have := L26_rng (le c4 (by simp))
      omega
theorem pfx_pc {p q r : S} (hp : p ∈ PS) (hq : q ∈ PS) : p.isPrefixOf (q ++ r) = decide (p = q) := by
  simp only [PS, tx_op, tx_cl, tx_an, tx_or, tx_nt, List.mem_cons, List.not_mem_nil, or_false] at hp hq
  rcases hp with rfl | rfl | rfl | rfl | rfl <;> rcases hq with rfl | rfl | rfl | rfl | rfl <;> simp [List.isPrefixOf]
inductive Fr where
  | op | nt | an (a : Sn) | or (a : Sn)
noncomputable def kn : Fr → S
  | .op => tx "("
  | .nt => tx "not"
  | .an _ => tx "and"
  | .or _ => tx "or"
noncomputable def fD : Fr → D
  | .op => .tup [.str (tx "(")]
  | .nt => .tup [.str (tx "not")]
  | .an a => .tup [.str (tx "and"), sd a]
  | .or a => .tup [.str (tx "or"), sd a]
noncomputable def fw : Fr → Sn → Sn
  | .op, w => w
  | .nt, w => .nt w
  | .an a, w => .an a w
  | .or a, w => .or a w
noncomputable def inJ (l : Nat) : Fr → Bool
  | .op => false
  | .nt => decide (l ≤ 2)
  | .an _ => decide (l ≤ 1)
  | .or _ => decide (l ≤ 0)
theorem inJ_mono {l m : Nat} (h : l ≤ m) : ∀ {f : Fr}, inJ m f = true → inJ l f = true
  | .op, e => by cases e
  | .nt, e => by simp only [inJ, decide_eq_true_eq] at e ⊢; omega
  | .an _, e => by simp only [inJ, decide_eq_true_eq] at e ⊢; omega
  | .or _, e => by simp only [inJ, decide_eq_true_eq] at e ⊢; omega
noncomputable def endd (l : Nat) : List Fr → Sn → List Fr × Sn
  | [], w => ([], w)
  | f :: B, w => if inJ l f = true then endd l B (fw f w) else (f :: B, w)
noncomputable def fld : List Fr → Sn → Sn
  | [], w => w
  | f :: B, w => fld B (fw f w)
theorem fld_app : ∀ {A B : List Fr} {w : Sn}, fld (A ++ B) w = fld B (fld A w)
  | [], B, w => rfl
  | f :: A, B, w => fld_app (A := A)
theorem endd_of {l : Nat} {B : List Fr} (hB : ∀ f, B.head? = some f → inJ l f = false) : ∀ {A : List Fr} {w : Sn}, (∀ f ∈ A, inJ l f = true) → endd l (A ++ B) w = (B, fld A w)
  | [], w, _ => by
    cases B with
    | nil => rfl
    | cons f B =>
      show (if inJ l f = true then _ else _) = _
      rw [hB f rfl, if_neg (by decide)]; rfl
  | f :: A, w, hA => by
    show (if inJ l f = true then endd l (A ++ B) (fw f w) else _) = _
    rw [if_pos (hA f (by simp)), endd_of hB (A := A) fun g hg => hA g (by simp [hg])]; rfl
inductive Stp : List Fr → Option Sn → S → List Fr → Option Sn → Prop
  | cl {B B' : List Fr} {w w' : Sn} {f : Fr} : endd 0 B w = (f :: B', w') → Stp B (some w) (tx ")") B' (some w')
  | an {B B' : List Fr} {w w' : Sn} : endd 1 B w = (B', w') → Stp B (some w) (tx "and") (.an w' :: B') none
  | or {B B' : List Fr} {w w' : Sn} : endd 0 B w = (B', w') → Stp B (some w) (tx "or") (.or w' :: B') none
  | op {B : List Fr} : Stp B none (tx "(") (.op :: B) none
  | nt {B : List Fr} : Stp B none (tx "not") (.nt :: B) none
  | nm {B : List Fr} {n : S} : GN n → Stp B none n B (some (.is n))
inductive Run : List Fr → Option Sn → List S → List Fr → Option Sn → Prop
  | nil {B : List Fr} {w : Option Sn} : Run B w [] B w
  | cons {B B1 B2 : List Fr} {w w1 w2 : Option Sn} {t : S} {ts : List S} : Stp B w t B1 w1 → Run B1 w1 ts B2 w2 → Run B w (t :: ts) B2 w2
theorem Run.app {B B1 B2 : List Fr} {w w1 w2 : Option Sn} {ts us : List S} (a : Run B w ts B1 w1) (b : Run B1 w1 us B2 w2) : Run B w (ts ++ us) B2 w2 := by
  induction a with
  | nil => exact b
  | cons s _ ih => exact .cons s (ih b)
theorem lstrip_id {c : Nat} : ∀ {s : S}, s.head? ≠ some c → lstrip c s = s
  | [], _ => rfl
  | x :: xs, h => by
    unfold lstrip
    rw [if_neg (fun e => h (by rw [e]; rfl))]
theorem strip_id {c : Nat} {s : S} (h : c ∉ s) : Z.strip c s = s := by
  unfold Z.strip
  have h1 : s.head? ≠ some c := fun e => h (List.mem_of_mem_head? (by rw [e]; rfl))
  have h2 : s.reverse.head? ≠ some c := fun e => h (List.mem_reverse.mp (List.mem_of_mem_head? (by rw [e]; rfl)))
  rw [lstrip_id h1, lstrip_id h2, List.reverse_reverse]
noncomputable def tk (q : S) : S := Z.strip 32 q
theorem tk_op : tk (tx "(") = tx "(" := by decide
theorem tk_cl : tk (tx ")") = tx ")" := by decide
theorem tk_an : tk (tx " and ") = tx "and" := by decide
theorem tk_or : tk (tx " or ") = tx "or" := by decide
theorem tk_nt : tk (tx "not ") = tx "not" := by decide
theorem tk_nm {n : S} (g : GN n) : tk n = n := strip_id fun h => by have := L26_rng (g.le _ h); omega
noncomputable def Rd (s : Sn) (l : Nat) (ts : List S) (B : List Fr) : Prop := ∃ (A : List Fr) (w : Sn), Run B none ts (A ++ B) (some w) ∧ fld A w = s ∧ ∀ f ∈ A, inJ l f = true
noncomputable def Inv (l : Nat) (B : List Fr) : Prop := l ≤ 1 → ∀ f, B.head? = some f → inJ l f = false
theorem inv_of {l : Nat} {f : Fr} {B : List Fr} (h : inJ l f = false) : Inv l (f :: B) := fun _ g e => by cases e; exact h
theorem rd_bp {s : Sn} {t l : Nat} {ps : List S} (k : ∀ l' B, l' ≤ t → l' ≤ 2 → Inv l' B → Rd s l' (ps.map tk) B) {B : List Fr} (hl : l ≤ 2) (hB : Inv l B) : Rd s l ((bp t l ps).map tk) B := by
  unfold bp
  split
  · exact k l B (by assumption) hl hB
  · obtain ⟨A, w, r, e, hA⟩ := k 0 (.op :: B) (by omega) (by omega) (inv_of rfl)
    rw [List.map_cons, List.map_append, tk_op]
    refine ⟨[], s, .cons .op (r.app ?_), rfl, by simp⟩
    rw [List.map_cons, List.map_nil, tk_cl]
    refine .cons (.cl (f := .op) (B' := B) (w' := s) ?_) .nil
    rw [endd_of (fun f e => by cases e; rfl) hA, e]
theorem rd : ∀ {s : Sn} {l : Nat}, (∀ n ∈ nm s, GN n) → l ≤ 2 → ∀ {B : List Fr}, Inv l B → Rd s l ((pc s l).map tk) B
  | .is n, l, g, hl, B, hB => by
    refine rd_bp (fun l' B h1 h2 h3 => ?_) hl hB
    have gn := g n (by simp [nm])
    rw [List.map_cons, List.map_nil, tk_nm gn]
    exact ⟨[], .is n, .cons (.nm gn) .nil, rfl, by simp⟩
  | .nt a, l, g, hl, B, hB => by
    refine rd_bp (fun l' B h1 h2 h3 => ?_) hl hB
    obtain ⟨A, w, r, e, hA⟩ := rd (s := a) (l := 2) g (by omega) (B := .nt :: B) (fun h => by omega)
    rw [List.map_cons, tk_nt]
    refine ⟨A ++ [.nt], w, ?_, by rw [fld_app, e]; rfl, fun f hf => ?_⟩
    · rw [List.append_assoc]
      exact .cons .nt r
    · rcases List.mem_append.mp hf with hf | hf
      · exact inJ_mono h2 (hA f hf)
      · rw [List.mem_singleton] at hf; subst hf; simp [inJ]; omega
  | .an a b, l, g, hl, B, hB => by
    refine rd_bp (fun l' B h1 h2 h3 => ?_) hl hB
    have hB1 : ∀ f, B.head? = some f → inJ 1 f = false := fun f e => by
      have := h3 h1 f e
      cases e1 : inJ 1 f with
      | false => rfl
      | true => rw [inJ_mono h1 e1] at this; cases this
    obtain ⟨A, w, r, e, hA⟩ := rd (s := a) (l := 1) (fun n h => g n (by simp [nm, h])) (by omega) (B := B) (fun _ => hB1)
    obtain ⟨A2, w2, r2, e2, hA2⟩ := rd (s := b) (l := 2) (fun n h => g n (by simp [nm, h])) (by omega) (B := .an a :: B) (fun h => by omega)
    rw [List.map_append, List.map_cons, tk_an]
    refine ⟨A2 ++ [.an a], w2, r.app (.cons (.an (B' := B) (w' := a) ?_) ?_), by rw [fld_app, e2]; rfl, fun f hf => ?_⟩
    · rw [endd_of hB1 hA, e]
    · rw [List.append_assoc]; exact r2
    · rcases List.mem_append.mp hf with hf | hf
      · exact inJ_mono h2 (hA2 f hf)
      · rw [List.mem_singleton] at hf; subst hf; simp [inJ]; omega
  | .or a b, l, g, hl, B, hB => by
    refine rd_bp (fun l' B h1 h2 h3 => ?_) hl hB
    obtain rfl : l' = 0 := by omega
    have hB1 := h3 (by omega)
    obtain ⟨A, w, r, e, hA⟩ := rd (s := a) (l := 0) (fun n h => g n (by simp [nm, h])) (by omega) (B := B) (fun _ => hB1)
    obtain ⟨A2, w2, r2, e2, hA2⟩ := rd (s := b) (l := 1) (fun n h => g n (by simp [nm, h])) (by omega) (B := .or a :: B) (inv_of rfl)
    rw [List.map_append, List.map_cons, tk_or]
    refine ⟨A2 ++ [.or a], w2, r.app (.cons (.or (B' := B) (w' := a) ?_) ?_), by rw [fld_app, e2]; rfl, fun f hf => ?_⟩
    · rw [endd_of hB1 hA, e]
    · rw [List.append_assoc]; exact r2
    · rcases List.mem_append.mp hf with hf | hf
      · exact inJ_mono (by omega) (hA2 f hf)
      · rw [List.mem_singleton] at hf; subst hf; rfl
theorem g_chain {p q : Prim} {a b c : Ex} {Γ : Gam} {σ : Lo} : wpE sb Γ E (.chain p q a b c) σ h Q = wpE sb Γ E a σ h (fun x h1 => wpE sb Γ E b σ h1 fun y h2 => match prim sb p [x, y] h2 with
    | some (.bl true, h3) => wpE sb Γ E c σ h3 fun z h4 => match prim sb q [y, z] h4 with
      | some (v, h5) => Q v h5
      | none => False
    | some (.bl false, h3) => Q (.bl false) h3
    | _ => False) := by simp only [wpE] <;> rfl
theorem isSub_one {c : Nat} : ∀ {s : S}, isSub [c] s = decide (c ∈ s)
  | [] => rfl
  | x :: r => by
    show ([c].isPrefixOf (x :: r) || isSub [c] r) = _
    rw [isSub_one (s := r)]
    by_cases e : c = x
    · subst e; simp [List.isPrefixOf]
    · have e2 : (c == x) = false := by simp [e]
      simp [List.isPrefixOf, e, e2]
theorem q_let {c : Nat} : prim sb .inS [.str [c], k_LETTERS] h = some (.bl (decide (c ∈ L26)), h) := by
  show some (D.bl (isSub [c] L26), h) = _
  rw [isSub_one]
theorem c_word_end {t n r : S} {p : Nat} (e : t.drop p = n ++ r) (hp : p ≤ t.length) (hn : ∀ c ∈ n, c ∈ L26) (hr : NL r) (q : Q (.int ((p + n.length : Nat) : Int)) h) : wpCall sb P (d + 1) 3 [.str t, .int p] h Q E := by
  refine wp_call rfl rfl ?_
  simp! only [e_word_end_3]
  refine wp_whileC (fun m σ h' => h' = h ∧ ∃ i, i ≤ n.length ∧ m = n.length - i ∧ σ = [some (.str t), some (.int ((p + i : Nat) : Int))]) (m := n.length) ⟨rfl, 0, by omega, by omega, rfl⟩ ?_
  rintro m σ h' ⟨rfl, i, hi, rfl, rfl⟩
  have hl : t.length = p + n.length + r.length := by have := congrArg List.length e; simp at this; omega
  simp! only
  by_cases hlt : i < n.length
  · have ea : atI t ((p + i : Nat) : Int) = some n[i] := by rw [atI_lit, ← List.getElem?_drop, e, List.getElem?_append_left hlt, List.getElem?_eq_getElem hlt]
    rw [decide_eq_true (by omega)]
    simp! only [ea, q_let, decide_eq_true (hn _ (List.getElem_mem hlt)), e_word_end_2]
    refine ⟨n.length - (i + 1), by omega, i + 1, by omega, rfl, ?_⟩
    have : ((p + i : Nat) : Int) - -1 = ((p + (i + 1) : Nat) : Int) := by omega
    rw [this]
  · obtain rfl : i = n.length := by omega
    cases r with
    | nil =>
      rw [decide_eq_false (by simp at hl; omega)]
      simp! only [e_word_end_1]
      exact q
    | cons c r' =>
      have ea : atI t ((p + n.length : Nat) : Int) = some c := by rw [atI_lit, ← List.getElem?_drop, e, List.getElem?_append_right (Nat.le_refl _)]; simp
      rw [decide_eq_true (by simp at hl; omega)]
      simp! only [ea, q_let, decide_eq_false (hr c rfl), e_word_end_1]
      exact q
theorem q_kw {n : S} : prim sb .notin [.str n, k_KEPT_WORDS] h = some (.bl (KW.contains n != true), h) := by
  have e : prim sb .notin [.str n, .tup (KW.map .str)] h = (inDs (.str n) (KW.map .str)).map fun b => (.bl (b != true), h) := rfl
  rw [inDs_str] at e
  exact e
theorem c_is_name {n : S} (g : GN n) (q : Q (.bl true) h) : wpCall sb P (d + 1) 4 [.str n] h Q E := by
  refine wp_call rfl rfl ?_
  have k : KW.contains n = false := by
    rw [Bool.eq_false_iff]; exact fun e => g.kw (List.contains_iff_mem.mp e)
  have l1 : decide ((1 : Int) ≤ (n.length : Int)) = true := decide_eq_true (by have := g.lo; omega)
  have l2 : decide ((n.length : Int) ≤ 12) = true := decide_eq_true (by have := g.hi; omega)
  simp! only [e_is_name_1, g_chain, k_MOST_LETTERS, l1, l2, q_kw, k]
  exact q
theorem q_starts {t p' : S} {p : Nat} (hp : p ≤ t.length) : prim sb .starts3 [.str t, .str p', .int p] h = some (.bl (p'.isPrefixOf (t.drop p)), h) := by
  show (if 0 ≤ (p : Int) ∧ (p : Int) ≤ t.length then some (D.bl (p'.isPrefixOf (t.drop (p : Int).toNat)), h) else none) = _
  rw [if_pos (by omega)]; rfl
theorem cut_mid {t n r : S} {p : Nat} (e : t.drop p = n ++ r) (hp : p ≤ t.length) : cut t (some (p : Int)) (some ((p + n.length : Nat) : Int)) = n := by
  have hl : t.length = p + n.length + r.length := by have := congrArg List.length e; simp at this; omega
  simp only [cut, sIx]
  rw [if_neg (by omega), if_neg (by omega)]
  have e1 : (min (p : Int) (t.length : Int)).toNat = p := by omega
  have e2 : (min ((p + n.length : Nat) : Int) (t.length : Int)).toNat = p + n.length := by omega
  rw [e1, e2, e, show p + n.length - p = n.length by omega]
  simp
theorem c_piece_at {t q0 r : S} {p : Nat} (e : t.drop p = q0 ++ r) (hp : p ≤ t.length) (hq : q0 ∈ PS ∨ (GN q0 ∧ NL r)) (q : Q (.str q0) h) : wpCall sb P (d + 2) 2 [.str t, .int p] h Q E := by
  refine wp_call rfl rfl ?_
  simp! only [e_piece_at_5]
  refine wp_for (xs := PS.map .str) (J := itXs (PS.map .str)) (vs := [k_PIECES]) (h1 := h) (fun i σ h' => h' = h ∧ q0 ∉ PS.take i ∧ ∃ x, σ = [some (.str t), some (.int p), x, none]) (fun Q q => by simp! only; exact q) rfl ⟨rfl, by simp, none, rfl⟩ (fun i σ h' _ _ => rfl) ?_ ?_
  · rintro i v σ h' ev ⟨rfl, hni, x, rfl⟩
    rw [List.getElem?_map] at ev
    cases e1 : PS[i]? with
    | none => rw [e1] at ev; cases ev
    | some p' =>
      rw [e1] at ev
      cases ev
      have hm : p' ∈ PS := List.mem_of_getElem? e1
      refine ⟨_, rfl, ?_⟩
      simp! only [e_piece_at_4, q_starts hp, e]
      have tk : PS.take (i + 1) = PS.take i ++ [p'] := by rw [List.take_succ, e1]; rfl
      cases eb : p'.isPrefixOf (q0 ++ r) with
      | true =>
        have : p' = q0 := by
          rcases hq with hq | ⟨g, hr⟩
          · rw [pfx_pc hm hq] at eb; exact of_decide_eq_true eb
          · rw [pfx_name g hr hm] at eb; cases eb
        subst this
        simp! only [e_piece_at_3]
        exact q
      | false =>
        simp! only
        refine ⟨?_, _, rfl⟩
        rw [tk, List.mem_append, List.mem_singleton]
        rintro (z | rfl)
        · exact hni z
        · rw [pfx_pc hm hm] at eb; simp at eb
  · rintro σ h' ⟨rfl, hni, x, rfl⟩
    have hn : q0 ∉ PS := by
      have : PS.take (PS.map Z.D.str).length = PS := by rw [List.length_map, List.take_length]
      rwa [this] at hni
    obtain ⟨g, hr⟩ := hq.resolve_left hn
    simp! only [e_piece_at_2]
    refine c_word_end e hp g.le hr ?_
    have e2 : pSlice (.str t) (some (p : Int)) (some ((p + q0.length : Nat) : Int)) h' = some (.str q0, h') := by
      show some (D.str (cut t _ _), h') = _
      rw [cut_mid e hp]
    simp! only [e2, e_piece_at_1]
    refine c_is_name g ?_
    simp! only
    exact q
theorem q_isNS {s : S} : prim sb .isN [.str s] h = some (.bl false, h) := rfl
theorem q_isNR {s : Nat} : prim sb .isN [.ref s] h = some (.bl false, h) := rfl
theorem q_strip {s : S} : prim sb .strip [.str s, .str (tx " ")] h = some (.str (tk s), h) := rfl
theorem pg_inv {q : S} {qs : List S} (g : PG (q :: qs)) : (q ∈ PS ∨ (GN q ∧ NL qs.flatten)) ∧ PG qs := by
  cases g with
  | pc a b => exact ⟨.inl a, b⟩
  | nm a b c => exact ⟨.inr ⟨a, b⟩, c⟩
theorem c_tokens {al : List S} (g : PG al) (hl : al.length ≤ 1000) (q : Q (.ref h.length) (h ++ [.lst ((al.map tk).map .str)])) : wpCall sb P (d + 3) 1 [.str al.flatten] h Q E := by
  refine wp_call rfl rfl ?_
  simp! only [e_tokens_of_9, e_tokens_of_8, e_tokens_of_7]
  refine wp_whileC (fun m σ h' => ∃ (ps qs : List S) (x : Option D), al = ps ++ qs ∧ m = qs.length ∧ h' = h ++ [.lst ((ps.map tk).map .str)] ∧ PG qs ∧ σ = [some (.str al.flatten), some (.ref h.length), some (.int ps.flatten.length), x]) (m := al.length) ⟨[], al, none, rfl, rfl, rfl, g, rfl⟩ ?_
  rintro m σ h' ⟨ps, qs, x, e, rfl, rfl, g, rfl⟩
  simp! only
  cases qs with
  | nil =>
    rw [List.append_nil] at e
    subst e
    rw [decide_eq_false (by omega)]
    simp! only [e_tokens_of_1]
    exact q
  | cons q0 qs =>
    obtain ⟨hq, g2⟩ := pg_inv g
    have ne := pg_ne g
    have l0 : 0 < q0.length := List.length_pos_iff.mpr ne
    have fl : al.flatten = ps.flatten ++ (q0 ++ qs.flatten) := by rw [e, List.flatten_append, List.flatten_cons]
    have ll : al.flatten.length = ps.flatten.length + (q0.length + qs.flatten.length) := by rw [fl]; simp only [List.length_append]
    have dr : al.flatten.drop ps.flatten.length = q0 ++ qs.flatten := by rw [fl, List.drop_left]
    have l1 : al.length = ps.length + (qs.length + 1) := by rw [e]; simp
    rw [decide_eq_true (by omega)]
    simp! only [e_tokens_of_6]
    refine c_piece_at dr (by omega) hq ?_
    simp! only [e_tokens_of_5, q_isNS, e_tokens_of_3, y_lst get_new, q_strip, p_app get_new (show ((ps.map tk).map Z.D.str).length < 16777216 by simp only [List.length_map]; omega), set_new, e_tokens_of_2]
    refine ⟨qs.length, by omega, ps ++ [q0], qs, some (.str q0), by rw [e, List.append_assoc]; rfl, rfl, by simp, g2, ?_⟩
    have : (ps.flatten.length : Int) - -(q0.length : Int) = ((ps ++ [q0]).flatten.length : Int) := by
      rw [List.flatten_append, List.length_append]; simp
    rw [this]
noncomputable def JT : Nat → List S
  | 0 => [tx "not", tx "and", tx "or"]
  | _ => [tx "not", tx "and"]
theorem jt_in {l : Nat} (hl : l ≤ 1) : ∀ {f : Fr}, (JT l).contains (kn f) = inJ l f := by
  intro f
  obtain rfl | rfl : l = 0 ∨ l = 1 := by omega
  · cases f
    · show (JT 0).contains (tx "(") = false; decide
    · show (JT 0).contains (tx "not") = true; decide
    · show (JT 0).contains (tx "and") = true; decide
    · show (JT 0).contains (tx "or") = true; decide
  · cases f
    · show (JT 1).contains (tx "(") = false; decide
    · show (JT 1).contains (tx "not") = true; decide
    · show (JT 1).contains (tx "and") = true; decide
    · show (JT 1).contains (tx "or") = false; decide
theorem fd_0 : ∀ {f : Fr}, prim sb .idx [fD f, .int 0] h = some (.str (kn f), h)
  | .op => rfl
  | .nt => rfl
  | .an _ => rfl
  | .or _ => rfl
theorem fd_add {l : Nat} {w : Sn} : ∀ {f : Fr}, inJ l f = true → prim sb .add [fD f, .tup [sd w]] h = some (sd (fw f w), h)
  | .op, e => by cases e
  | .nt, _ => rfl
  | .an _, _ => rfl
  | .or _, _ => rfl
theorem q_inJ {l : Nat} (hl : l ≤ 1) {f : Fr} : inDs (.str (kn f)) ((JT l).map .str) = some (inJ l f) := by
  rw [inDs_str, jt_in hl]
theorem fr_app {B : List Fr} {f : Fr} : (f :: B).reverse.map fD = B.reverse.map fD ++ [fD f] := by simp
theorem c_ended {l : Nat} {B : List Fr} {w : Sn} (hl : l ≤ 1) (q : Q (sd (endd l B w).2) (h ++ [.lst ((endd l B w).1.reverse.map fD)])) :
    wpCall sb P (d + 1) 6 [.ref h.length, sd w, .tup ((JT l).map .str)] (h ++ [.lst (B.reverse.map fD)]) Q E := by
  refine wp_call rfl rfl ?_
  simp! only [e_ended_3]
  refine wp_whileC (fun m σ h' => ∃ (B' : List Fr) (w' : Sn), endd l B' w' = endd l B w ∧ m = B'.length ∧ h' = h ++ [.lst (B'.reverse.map fD)] ∧ σ = [some (.ref h.length), some (sd w'), some (.tup ((JT l).map .str))]) (m := B.length) ⟨B, w, rfl, rfl, rfl, rfl⟩ ?_
  rintro m σ h' ⟨B', w', e, rfl, rfl, rfl⟩
  cases B' with
  | nil =>
    rw [← e] at q
    have t0 : truthy (h ++ [AO.lst (([] : List Fr).reverse.map fD)]) (.ref h.length) = some false := t_lst get_new
    simp! only [t0, e_ended_1]
    exact q
  | cons f B' =>
    rw [fr_app]
    have t1 : truthy (h ++ [AO.lst (B'.reverse.map fD ++ [fD f])]) (.ref h.length) = some true := by rw [t_lst get_new]; simp
    have ea : atI (B'.reverse.map fD ++ [fD f]) (-1) = some (fD f) := by rw [atI_m1]; simp
    simp! only [t1, q_idxL get_new, ea, fd_0, q_inJ hl]
    cases ej : inJ l f with
    | true =>
      simp! only [e_ended_2, y_lst get_new, q_pop get_new, set_new, fd_add ej]
      refine ⟨B'.length, by simp, B', fw f w', ?_, rfl, rfl, rfl⟩
      rw [← e]
      show _ = if _ then _ else _
      rw [if_pos ej]
    | false =>
      have : endd l (f :: B') w' = (f :: B', w') := by show (if _ then _ else _) = _; rw [if_neg (by rw [ej]; decide)]
      simp! only [e_ended_1]
      rw [← e, this, fr_app] at q
      exact q
noncomputable def oD : Option Sn → D
  | none => .non
  | some w => sd w
theorem isN_sd {w : Sn} : prim sb .isN [sd w] h = some (.bl false, h) := by cases w <;> rfl
theorem eqH_bl {p q : Bool} : eqH h (.bl p) (.bl q) = some (p == q) := rfl
theorem tin_and : prim sb (.tin t_TIGHTER) [.str (tx "and")] h = some (.bl true, h) := rfl
theorem tin_or : prim sb (.tin t_TIGHTER) [.str (tx "or")] h = some (.bl true, h) := rfl
theorem tin_cl : prim sb (.tin t_TIGHTER) [.str (tx ")")] h = some (.bl true, h) := rfl
theorem tin_op : prim sb (.tin t_TIGHTER) [.str (tx "(")] h = some (.bl false, h) := rfl
theorem tin_nt : prim sb (.tin t_TIGHTER) [.str (tx "not")] h = some (.bl false, h) := rfl
theorem tget_and : prim sb (.tget t_TIGHTER) [.str (tx "and")] h = some (.tup ((JT 1).map .str), h) := rfl
theorem tget_or : prim sb (.tget t_TIGHTER) [.str (tx "or")] h = some (.tup ((JT 0).map .str), h) := rfl
theorem tget_cl : prim sb (.tget t_TIGHTER) [.str (tx ")")] h = some (.tup ((JT 0).map .str), h) := rfl
theorem gn_ne {n k : S} (g : GN n) (hk : k ∈ KW ∨ k = tx "(" ∨ k = tx ")") : (n == k) = false := by
  rw [Bool.eq_false_iff]
  intro e
  have e := eq_of_beq e
  subst e
  rcases hk with hk | rfl | rfl
  · exact g.kw hk
  · have := L26_rng (g.le 40 (by rw [tx_op]; simp)); omega
  · have := L26_rng (g.le 41 (by rw [tx_cl]; simp)); omega
theorem tin_nm {n : S} (g : GN n) : prim sb (.tin t_TIGHTER) [.str n] h = some (.bl false, h) := by
  show some (D.bl (t_TIGHTER.lookup n).isSome, h) = _
  simp only [t_TIGHTER, List.lookup, gn_ne g (.inl (show tx "and" ∈ KW by simp [KW])), gn_ne g (.inl (show tx "or" ∈ KW by simp [KW])), gn_ne g (.inr (.inr rfl)), Option.isSome_none]
theorem endd_len {l : Nat} : ∀ {B : List Fr} {w : Sn}, (endd l B w).1.length ≤ B.length
  | [], w => Nat.le_refl _
  | f :: B, w => by
    show (if _ then _ else _ : List Fr × Sn).1.length ≤ _
    split
    · have := endd_len (l := l) (B := B) (w := fw f w)
      simp only [List.length_cons]; omega
    · exact Nat.le_refl _
theorem stp_len {B B' : List Fr} {w w' : Option Sn} {t : S} (st : Stp B w t B' w') : B'.length ≤ B.length + 1 := by
  cases st with
  | @cl _ w w' f e => have := endd_len (l := 0) (B := B) (w := w); rw [e] at this; simp at this; omega
  | @an _ w w' e => have := endd_len (l := 1) (B := B) (w := w); rw [e] at this; simp at this ⊢; omega
  | @or _ w w' e => have := endd_len (l := 0) (B := B) (w := w); rw [e] at this; simp at this ⊢; omega
  | op => simp
  | nt => simp
  | nm _ => omega
theorem s_cl_cl : (tx ")" == tx ")") = true := by decide
theorem s_an_cl : (tx "and" == tx ")") = false := by decide
theorem s_or_cl : (tx "or" == tx ")") = false := by decide
theorem s_op_cl : (tx "(" == tx ")") = false := by decide
theorem s_nt_cl : (tx "not" == tx ")") = false := by decide
theorem s_op_op : (tx "(" == tx "(") = true := by decide
theorem s_nt_op : (tx "not" == tx "(") = false := by decide
theorem s_nt_nt : (tx "not" == tx "not") = true := by decide
theorem b_tf : (true == false) = false := rfl
theorem b_ft : (false == true) = false := rfl
theorem pt_step {a : Nat} {B B' : List Fr} {w w' : Option Sn} {t : S} {x4 : Option D} {K : En} (st : Stp B w t B' w') (hl : B.length ≤ 1000)
    (q : ∀ x4, K.nx [some (.ref a), some (.ref h.length), some (oD w'), some (.str t), x4] (h ++ [.lst (B'.reverse.map fD)])) :
    wpSs sb (wpCall sb P (d + 1)) E b_put_together_19 K [some (.ref a), some (.ref h.length), some (oD w), some (.str t), x4] (h ++ [.lst (B.reverse.map fD)]) := by
  cases st with
  | @cl _ w w' f e =>
    simp! only [e_put_together_19, tin_cl, e_put_together_18, isN_sd, eqH_bl, b_tf, e_put_together_16, e_put_together_15, tget_cl, oD]
    refine c_ended (by omega) ?_
    rw [e, fr_app]
    have t1 : truthy (h ++ [AO.lst (B'.reverse.map fD ++ [fD f])]) (.ref h.length) = some true := by rw [t_lst get_new]; simp
    simp! only [e_put_together_14, s_cl_cl, e_put_together_7, t1, e_put_together_5, y_lst get_new, q_pop get_new, set_new]
    exact q _
  | @an B' w w' e =>
    have e2 := endd_len (l := 1) (B := B) (w := w)
    rw [e] at e2
    simp! only [e_put_together_19, tin_and, e_put_together_18, isN_sd, eqH_bl, b_tf, e_put_together_16, e_put_together_15, tget_and, oD]
    refine c_ended (by omega) ?_
    rw [e]
    simp! only [e_put_together_14, s_an_cl, e_put_together_13, e_put_together_9, y_lst get_new, p_app get_new (show (B'.reverse.map fD).length < 16777216 by simp at e2 ⊢; omega), set_new, e_put_together_8]
    have := q (some (.bl true))
    rw [fr_app] at this
    exact this
  | @or B' w w' e =>
    have e2 := endd_len (l := 0) (B := B) (w := w)
    rw [e] at e2
    simp! only [e_put_together_19, tin_or, e_put_together_18, isN_sd, eqH_bl, b_tf, e_put_together_16, e_put_together_15, tget_or, oD]
    refine c_ended (by omega) ?_
    rw [e]
    simp! only [e_put_together_14, s_or_cl, e_put_together_13, e_put_together_9, y_lst get_new, p_app get_new (show (B'.reverse.map fD).length < 16777216 by simp at e2 ⊢; omega), set_new, e_put_together_8]
    have := q (some (.bl true))
    rw [fr_app] at this
    exact this
  | op =>
    simp! only [e_put_together_19, tin_op, e_put_together_18, q_isN0, eqH_bl, b_ft, e_put_together_16, oD, e_put_together_14, s_op_cl, e_put_together_13, e_put_together_12, s_op_op, e_put_together_10, y_lst get_new, p_app get_new (show (B.reverse.map fD).length < 16777216 by simp; omega), set_new]
    have := q (some (.bl false))
    rw [fr_app] at this
    exact this
  | nt =>
    simp! only [e_put_together_19, tin_nt, e_put_together_18, q_isN0, eqH_bl, b_ft, e_put_together_16, oD, e_put_together_14, s_nt_cl, e_put_together_13, e_put_together_12, s_nt_op, s_nt_nt, e_put_together_10, y_lst get_new, p_app get_new (show (B.reverse.map fD).length < 16777216 by simp; omega), set_new]
    have := q (some (.bl false))
    rw [fr_app] at this
    exact this
  | nm g =>
    have s1 := gn_ne g (.inr (.inr rfl))
    have s2 := gn_ne g (.inr (.inl rfl))
    have s3 := gn_ne g (.inl (show tx "not" ∈ KW by simp [KW]))
    simp! only [e_put_together_19, tin_nm g, e_put_together_18, q_isN0, eqH_bl, b_ft, e_put_together_16, oD, e_put_together_14, s1, e_put_together_13, e_put_together_12, s2, s3, e_put_together_11]
    exact q _
theorem c_put {a : Nat} {ts : List S} {A : List Fr} {w s : Sn} (ha : h[a]? = some (.lst (ts.map .str))) (hl : ts.length ≤ 900) (r : Run [] none ts A (some w)) (he : endd 0 A w = ([], s))
    (q : ∀ h', h <+: h' → Q (sd s) h') : wpCall sb P (d + 2) 5 [.ref a] h Q E := by
  refine wp_call rfl rfl ?_
  simp! only [e_put_together_22, e_put_together_21, e_put_together_20]
  refine wp_for (xs := ts.map .str) (J := itList a) (vs := [.ref a]) (h1 := h ++ [.lst []]) (fun i σ h' => ∃ (B : List Fr) (v : Option Sn) (x3 x4 : Option D), h' = h ++ [.lst (B.reverse.map fD)] ∧ B.length ≤ i ∧ Run B v (ts.drop i) A (some w) ∧ σ = [some (.ref a), some (.ref h.length), some (oD v), x3, x4])
    (fun Q q => by simp! only; exact q) (it_lst (get_app ha)) ⟨[], none, none, none, rfl, Nat.le_refl _, r, rfl⟩ ?_ ?_ ?_
  · rintro i σ h' _ ⟨B, v, x3, x4, rfl, _⟩
    simp only [itList, get_app ha]
  · rintro i v σ h' ev ⟨B, v', x3, x4, rfl, hB, r, rfl⟩
    rw [List.getElem?_map] at ev
    cases et : ts[i]? with
    | none => rw [et] at ev; cases ev
    | some t =>
      rw [et] at ev; cases ev
      have hi := (List.getElem?_eq_some_iff.mp et).1
      have e1 : ts.drop i = t :: ts.drop (i + 1) := by
        rw [List.drop_eq_getElem_cons hi]
        congr 1
        exact Option.some.inj ((List.getElem?_eq_getElem hi).symm.trans et)
      rw [e1] at r
      cases r with
      | @cons _ B1 _ _ w1 _ _ _ st r =>
        refine ⟨_, rfl, ?_⟩
        have := stp_len st
        refine pt_step st (by omega) fun x4 => ?_
        exact ⟨B1, w1, _, x4, rfl, by omega, r, rfl⟩
  · rintro σ h' ⟨B, v, x3, x4, rfl, hB, r, rfl⟩
    rw [List.length_map, List.drop_length] at r
    cases r
    simp! only [e_put_together_4, isN_sd, e_put_together_2, oD]
    refine c_ended (l := 0) (by omega) ?_
    rw [he]
    have t0 : truthy (h ++ [AO.lst (([] : List Fr).reverse.map fD)]) (.ref h.length) = some false := t_lst get_new
    simp! only [e_put_together_1, t0]
    exact q _ (List.prefix_append _ _)
theorem pc_len : ∀ {s : Sn} {l : Nat}, (pc s l).length ≤ 3 * sz s
  | .is n, l => by simp only [pc, bp, sz]; split <;> simp
  | .nt a, l => by
    have := pc_len (s := a) (l := 2)
    simp only [pc, bp, sz]; split <;> simp <;> omega
  | .an a b, l => by
    have := pc_len (s := a) (l := 1)
    have := pc_len (s := b) (l := 2)
    simp only [pc, bp, sz]; split <;> simp <;> omega
  | .or a b, l => by
    have := pc_len (s := a) (l := 0)
    have := pc_len (s := b) (l := 1)
    simp only [pc, bp, sz]; split <;> simp <;> omega
theorem c_read {s : Sn} {row : D} (g : ∀ n ∈ nm s, GN n) (hz : sz s ≤ 120) (hl : (sh s 0).length ≤ 120) (q : ∀ h', h <+: h' → Q (sd s) h') : wpCall sb P (d + 4) 0 [.str (sh s 0), row] h Q E := by
  refine wp_call rfl rfl ?_
  have l1 : decide ((120 : Int) < ((sh s 0).length : Int)) = false := decide_eq_false (by omega)
  simp! only [e_read_sentence_7, k_MOST_SIGNS, l1, e_read_sentence_5]
  have pl := pc_len (s := s) (l := 0)
  rw [← pc_sh]
  refine c_tokens (by have := pg_pc (l := 0) g [] .nil nl_nil; rwa [List.append_nil] at this) (by omega) ?_
  obtain ⟨A, w, r, e, hA⟩ := rd (s := s) (l := 0) g (by omega) (B := []) (fun _ f e => by cases e)
  rw [List.append_nil] at r
  simp! only [e_read_sentence_4, q_isNR]
  refine c_put get_new (by rw [List.length_map]; omega) r (by have := endd_of (l := 0) (B := []) (fun f e => by cases e) (w := w) hA; rwa [List.append_nil, e] at this) fun h' pr => ?_
  simp! only [e_read_sentence_3, isN_sd, e_read_sentence_1]
  exact q h' (pre_of pr)
theorem s_is_is : (tx "is" == tx "is") = true := by decide
theorem s_nt_is : (tx "not" == tx "is") = false := by decide
theorem s_an_is : (tx "and" == tx "is") = false := by decide
theorem s_or_is : (tx "or" == tx "is") = false := by decide
theorem s_an_nt : (tx "and" == tx "not") = false := by decide
theorem s_or_nt : (tx "or" == tx "not") = false := by decide
theorem s_an_an : (tx "and" == tx "and") = true := by decide
theorem s_or_an : (tx "or" == tx "and") = false := by decide
theorem i2_0 {x y : D} : atI [x, y] 0 = some x := rfl
theorem i2_1 {x y : D} : atI [x, y] 1 = some y := rfl
theorem i3_0 {x y z : D} : atI [x, y, z] 0 = some x := rfl
theorem i3_1 {x y z : D} : atI [x, y, z] 1 = some y := rfl
theorem i3_2 {x y z : D} : atI [x, y, z] 2 = some z := rfl
theorem tt_is : prim sb (.tget t_TIGHTNESS) [.str (tx "is")] h = some (.int 3, h) := rfl
theorem tt_nt : prim sb (.tget t_TIGHTNESS) [.str (tx "not")] h = some (.int 2, h) := rfl
theorem tt_an : prim sb (.tget t_TIGHTNESS) [.str (tx "and")] h = some (.int 1, h) := rfl
theorem tt_or : prim sb (.tget t_TIGHTNESS) [.str (tx "or")] h = some (.int 0, h) := rfl
theorem c_brk {t l : Nat} {s : S} {x0 x2 x5 x6 : Option D} (hs : s.length ≤ 10000) (q : Q (.str (br t l s)) h) :
    wpSs sb (wpCall sb P d) E b_shown_part_1 { nx := fun _ h => Q .non h, rt := Q } [x0, some (.int l), x2, some (.int t), some (.str s), x5, x6] h := by
  simp! only [e_shown_part_1]
  by_cases hl : l ≤ t
  · rw [decide_eq_true (by omega)]
    rw [br, if_pos hl] at q
    simp! only
    exact q
  · rw [decide_eq_false (by omega)]
    rw [br, if_neg hl] at q
    simp! only
    rw [if_pos (by rw [tx_op]; simp only [List.length_cons, List.length_nil]; omega)]
    simp! only
    rw [if_pos (by rw [tx_op]; simp only [List.length_cons, List.length_nil]; omega)]
    simp! only
    rw [if_pos (by rw [tx_op, tx_cl]; simp only [List.length_append, List.length_cons, List.length_nil]; omega)]
    exact q
theorem tx_sp : tx " " = [32] := by decide
theorem tx_and : tx "and" = [97, 110, 100] := by decide
theorem tx_orw : tx "or" = [111, 114] := by decide
theorem c_part : ∀ {s : Sn} {d l : Nat} {h : AH} {Q : PV} {E : PX}, (∀ n ∈ nm s, GN n) → sz s ≤ 120 → lv s ≤ d → Q (.str (sh s l)) h → wpCall sb P d 8 [sd s, .int l] h Q E
  | .is n, 0, l, h, Q, E, g, hz, hd, q => by simp [lv] at hd
  | .is n, d + 1, l, h, Q, E, g, hz, hd, q => by
    have gn := (g n (by simp [nm])).hi
    refine wp_call rfl rfl ?_
    simp! only [sd, e_shown_part_10, i2_0, e_shown_part_9, tt_is, e_shown_part_8, s_is_is, e_shown_part_2, i2_1]
    exact c_brk (t := 3) (by omega) q
  | .nt a, 0, l, h, Q, E, g, hz, hd, q => by simp [lv] at hd
  | .nt a, d + 1, l, h, Q, E, g, hz, hd, q => by
    simp only [lv, sz] at hd hz
    have l1 := sh_len (s := a) (l := 2) g
    refine wp_call rfl rfl ?_
    simp! only [sd, e_shown_part_10, i2_0, e_shown_part_9, tt_nt, e_shown_part_8, s_nt_is, e_shown_part_7, s_nt_nt, e_shown_part_3, i2_1]
    refine c_part (s := a) (l := 2) g (by omega) (by omega) ?_
    simp! only
    rw [if_pos (by rw [tx_nt]; simp only [List.length_cons, List.length_nil]; omega)]
    simp! only
    exact c_brk (t := 2) (by rw [tx_nt]; simp only [List.length_append, List.length_cons, List.length_nil]; omega) q
  | .an a b, 0, l, h, Q, E, g, hz, hd, q => by simp [lv] at hd
  | .an a b, d + 1, l, h, Q, E, g, hz, hd, q => by
    simp only [lv, sz] at hd hz
    have g1 : ∀ n ∈ nm a, GN n := fun n h => g n (by simp [nm, h])
    have g2 : ∀ n ∈ nm b, GN n := fun n h => g n (by simp [nm, h])
    have l1 := sh_len (s := a) (l := 1) g1
    have l2 := sh_len (s := b) (l := 2) g2
    refine wp_call rfl rfl ?_
    simp! only [sd, e_shown_part_10, i3_0, e_shown_part_9, tt_an, e_shown_part_8, s_an_is, e_shown_part_7, s_an_nt, e_shown_part_6, i3_1]
    refine c_part (s := a) (l := 1) g1 (by omega) (by omega) ?_
    simp! only [e_shown_part_5, i3_2]
    refine c_part (s := b) (l := 2) g2 (by omega) (by omega) ?_
    simp! only [e_shown_part_4]
    rw [if_pos (by omega)]
    simp! only [tx_sp, tx_and]
    rw [if_pos (by omega)]
    simp! only
    rw [if_pos (by simp only [List.length_append, List.length_cons, List.length_nil]; omega)]
    simp! only
    rw [if_pos (by simp only [List.length_append, List.length_cons, List.length_nil]; omega)]
    simp! only
    rw [if_pos (by simp only [List.length_append, List.length_cons, List.length_nil]; omega)]
    simp! only
    refine c_brk (t := 1) (by simp only [List.length_append, List.length_cons, List.length_nil]; omega) ?_
    simpa [sh, tx_an, List.append_assoc] using q
  | .or a b, 0, l, h, Q, E, g, hz, hd, q => by simp [lv] at hd
  | .or a b, d + 1, l, h, Q, E, g, hz, hd, q => by
    simp only [lv, sz] at hd hz
    have g1 : ∀ n ∈ nm a, GN n := fun n h => g n (by simp [nm, h])
    have g2 : ∀ n ∈ nm b, GN n := fun n h => g n (by simp [nm, h])
    have l1 := sh_len (s := a) (l := 0) g1
    have l2 := sh_len (s := b) (l := 1) g2
    refine wp_call rfl rfl ?_
    simp! only [sd, e_shown_part_10, i3_0, e_shown_part_9, tt_or, e_shown_part_8, s_or_is, e_shown_part_7, s_or_nt, e_shown_part_6, i3_1]
    refine c_part (s := a) (l := 0) g1 (by omega) (by omega) ?_
    simp! only [e_shown_part_5, i3_2]
    refine c_part (s := b) (l := 1) g2 (by omega) (by omega) ?_
    simp! only [e_shown_part_4]
    rw [if_pos (by omega)]
    simp! only [tx_sp, tx_orw]
    rw [if_pos (by omega)]
    simp! only
    rw [if_pos (by simp only [List.length_append, List.length_cons, List.length_nil]; omega)]
    simp! only
    rw [if_pos (by simp only [List.length_append, List.length_cons, List.length_nil]; omega)]
    simp! only
    rw [if_pos (by simp only [List.length_append, List.length_cons, List.length_nil]; omega)]
    simp! only
    refine c_brk (t := 0) (by simp only [List.length_append, List.length_cons, List.length_nil]; omega) ?_
    simpa [sh, tx_or, List.append_assoc] using q
theorem c_brt {t l : Nat} {s : S} {x0 x3 : Option D} (hs : s.length ≤ 10000) (q : Q (.str (br t l s)) h) :
    wpSs sb (wpCall sb P d) E b_law_text_3 { nx := fun _ h => Q .non h, rt := Q } [x0, some (.int ((l : Int) + 1)), some (.int ((t : Int) + 1)), x3, some (.str s)] h := by
  simp! only [e_law_text_3]
  by_cases hl : l ≤ t
  · rw [decide_eq_false (by omega)]
    rw [br, if_pos hl] at q
    simp! only [e_law_text_1]
    exact q
  · rw [decide_eq_true (by omega)]
    rw [br, if_neg hl] at q
    simp! only [e_law_text_2]
    rw [if_pos (by rw [tx_op]; simp only [List.length_cons, List.length_nil]; omega)]
    simp! only
    rw [if_pos (by rw [tx_op, tx_cl]; simp only [List.length_append, List.length_cons, List.length_nil]; omega)]
    exact q
theorem c_text : ∀ {s : Sn} {d l : Nat} {h : AH} {Q : PV} {E : PX}, (∀ n ∈ nm s, GN n) → sz s ≤ 120 → lv s ≤ d → l ≤ 2 → Q (.str (sh s l)) h → wpCall sb P d 13 [sd s, .int ((l : Int) + 1)] h Q E
  | .is n, 0, l, h, Q, E, g, hz, hd, hl, q => by simp [lv] at hd
  | .is n, d + 1, l, h, Q, E, g, hz, hd, hl, q => by
    refine wp_call rfl rfl ?_
    simp! only [sd, e_law_text_13, i2_0, s_is_is, e_law_text_12, i2_1]
    rw [sh, br, if_pos (by omega)] at q
    exact q
  | .nt a, 0, l, h, Q, E, g, hz, hd, hl, q => by simp [lv] at hd
  | .nt a, d + 1, l, h, Q, E, g, hz, hd, hl, q => by
    simp only [lv, sz] at hd hz
    have l1 := sh_len (s := a) (l := 2) g
    refine wp_call rfl rfl ?_
    simp! only [sd, e_law_text_13, i2_0, s_nt_is, e_law_text_11, s_nt_nt, e_law_text_10, i2_1]
    refine c_text (s := a) (l := 2) g (by omega) (by omega) (by omega) ?_
    simp! only
    rw [if_pos (by rw [tx_nt]; simp only [List.length_cons, List.length_nil]; omega)]
    rw [sh, br, if_pos (by omega)] at q
    exact q
  | .an a b, 0, l, h, Q, E, g, hz, hd, hl, q => by simp [lv] at hd
  | .an a b, d + 1, l, h, Q, E, g, hz, hd, hl, q => by
    simp only [lv, sz] at hd hz
    have g1 : ∀ n ∈ nm a, GN n := fun n h => g n (by simp [nm, h])
    have g2 : ∀ n ∈ nm b, GN n := fun n h => g n (by simp [nm, h])
    have l1 := sh_len (s := a) (l := 1) g1
    have l2 := sh_len (s := b) (l := 2) g2
    refine wp_call rfl rfl ?_
    simp! only [sd, e_law_text_13, i3_0, s_an_is, e_law_text_11, s_an_nt, e_law_text_9, e_law_text_8, e_law_text_7, s_an_an, e_law_text_6, e_law_text_5, e_law_text_4, i3_1]
    refine c_text (s := a) (l := 1) g1 (by omega) (by omega) (by omega) ?_
    simp! only
    rw [if_pos (by rw [tx_an]; simp only [List.length_cons, List.length_nil]; omega)]
    simp! only [i3_2]
    refine c_text (s := b) (l := 2) g2 (by omega) (by omega) (by omega) ?_
    simp! only
    rw [if_pos (by rw [tx_an]; simp only [List.length_append, List.length_cons, List.length_nil]; omega)]
    simp! only
    exact c_brt (t := 1) (by rw [tx_an]; simp only [List.length_append, List.length_cons, List.length_nil]; omega) q
  | .or a b, 0, l, h, Q, E, g, hz, hd, hl, q => by simp [lv] at hd
  | .or a b, d + 1, l, h, Q, E, g, hz, hd, hl, q => by
    simp only [lv, sz] at hd hz
    have g1 : ∀ n ∈ nm a, GN n := fun n h => g n (by simp [nm, h])
    have g2 : ∀ n ∈ nm b, GN n := fun n h => g n (by simp [nm, h])
    have l1 := sh_len (s := a) (l := 0) g1
    have l2 := sh_len (s := b) (l := 1) g2
    refine wp_call rfl rfl ?_
    simp! only [sd, e_law_text_13, i3_0, s_or_is, e_law_text_11, s_or_nt, e_law_text_9, e_law_text_8, e_law_text_7, s_or_an, e_law_text_4, i3_1]
    refine c_text (s := a) (l := 0) g1 (by omega) (by omega) (by omega) ?_
    simp! only
    rw [if_pos (by rw [tx_or]; simp only [List.length_cons, List.length_nil]; omega)]
    simp! only [i3_2]
    refine c_text (s := b) (l := 1) g2 (by omega) (by omega) (by omega) ?_
    simp! only
    rw [if_pos (by rw [tx_or]; simp only [List.length_append, List.length_cons, List.length_nil]; omega)]
    simp! only
    exact c_brt (t := 0) (by rw [tx_or]; simp only [List.length_append, List.length_cons, List.length_nil]; omega) q
theorem c_shown {s : Sn} (g : ∀ n ∈ nm s, GN n) (hz : sz s ≤ 120) (hd : lv s ≤ d) (q : Q (.str (sh s 0)) h) : wpCall sb P (d + 1) 7 [sd s] h Q E := by
  refine wp_call rfl rfl ?_
  simp! only [e_shown_sentence_1]
  exact c_part (l := 0) g hz hd q
theorem q_isS {s : S} : prim sb (.isi .str) [.str s] h = some (.bl true, h) := rfl
theorem q_isST {s : List D} : prim sb (.isi .str) [.tup s] h = some (.bl false, h) := rfl
theorem q_isTT {s : List D} : prim sb (.isi .tuple) [.tup s] h = some (.bl true, h) := rfl
theorem c_sameS {s : S} (q : Q (.bl true) h) : wpCall sb P (d + 1) 15 [.str s, .str s] h Q E := by
  refine wp_call rfl rfl ?_
  simp! only [e_law_same_8, q_isS, e_law_same_7, beq_self_eq_true]
  exact q
theorem c_sameT {xs : List D} (hl : xs.length ≤ 100) (hx : ∀ x ∈ xs, ∀ {h : AH} {Q : PV} {E : PX}, Q (.bl true) h → wpCall sb P d 15 [x, x] h Q E) (q : Q (.bl true) h) : wpCall sb P (d + 1) 15 [.tup xs, .tup xs] h Q E := by
  refine wp_call rfl rfl ?_
  simp! only [e_law_same_8, q_isST, e_law_same_6, q_isTT, beq_self_eq_true, e_law_same_4]
  refine wp_rng (lo := 0) (n := xs.length) (vs := [.int xs.length]) (h1 := h) (fun i σ h' => h' = h ∧ ∃ x, σ = [some (.tup xs), some (.tup xs), x]) (fun Q q => by simp! only; exact q) (by simp [iterOf, ioV, ioR, ioE, ioZ, ioB, okR]; omega) ⟨rfl, none, rfl⟩ ?_ ?_
  · rintro i σ h' hi ⟨rfl, x, rfl⟩
    refine ⟨_, rfl, ?_⟩
    have ea : atI xs (0 + (i : Int)) = some xs[i] := by rw [atI_of (by omega), show (0 + (i : Int)).toNat = i by omega, List.getElem?_eq_getElem hi]
    simp! only [e_law_same_3, ea]
    refine hx _ (List.getElem_mem hi) ?_
    simp! only
    exact ⟨_, rfl⟩
  · rintro σ h' ⟨rfl, x, rfl⟩
    simp! only [e_law_same_1]
    exact q
theorem c_same : ∀ {s : Sn} {d : Nat} {h : AH} {Q : PV} {E : PX}, lv s + 1 ≤ d → Q (.bl true) h → wpCall sb P d 15 [sd s, sd s] h Q E
  | _, 0, h, Q, E, hd, q => by omega
  | .is n, d + 1, h, Q, E, hd, q => by
    obtain ⟨d, rfl⟩ : ∃ d', d = d' + 1 := ⟨d - 1, by simp [lv] at hd; omega⟩
    refine c_sameT (xs := [.str (tx "is"), .str n]) (by simp) ?_ q
    intro x hx h Q E q
    simp only [List.mem_cons, List.not_mem_nil, or_false] at hx
    rcases hx with rfl | rfl <;> exact c_sameS q
  | .nt a, d + 1, h, Q, E, hd, q => by
    simp only [lv] at hd
    obtain ⟨d, rfl⟩ : ∃ d', d = d' + 1 := ⟨d - 1, by omega⟩
    refine c_sameT (xs := [.str (tx "not"), sd a]) (by simp) ?_ q
    intro x hx h Q E q
    simp only [List.mem_cons, List.not_mem_nil, or_false] at hx
    rcases hx with rfl | rfl
    · exact c_sameS q
    · exact c_same (s := a) (by omega) q
  | .an a b, d + 1, h, Q, E, hd, q => by
    simp only [lv] at hd
    obtain ⟨d, rfl⟩ : ∃ d', d = d' + 1 := ⟨d - 1, by omega⟩
    refine c_sameT (xs := [.str (tx "and"), sd a, sd b]) (by simp) ?_ q
    intro x hx h Q E q
    simp only [List.mem_cons, List.not_mem_nil, or_false] at hx
    rcases hx with rfl | rfl | rfl
    · exact c_sameS q
    · exact c_same (s := a) (by omega) q
    · exact c_same (s := b) (by omega) q
  | .or a b, d + 1, h, Q, E, hd, q => by
    simp only [lv] at hd
    obtain ⟨d, rfl⟩ : ∃ d', d = d' + 1 := ⟨d - 1, by omega⟩
    refine c_sameT (xs := [.str (tx "or"), sd a, sd b]) (by simp) ?_ q
    intro x hx h Q E q
    simp only [List.mem_cons, List.not_mem_nil, or_false] at hx
    rcases hx with rfl | rfl | rfl
    · exact c_sameS q
    · exact c_same (s := a) (by omega) q
    · exact c_same (s := b) (by omega) q
theorem c_again {s : Sn} {num : Int} (g : ∀ n ∈ nm s, GN n) (hz : sz s ≤ 120) (hl : (sh s 0).length ≤ 120) (hv : lv s ≤ 40) (q : ∀ h', h <+: h' → Q (.bl true) h') : wpCall sb P (d + 45) 16 [.str (sh s 0), .int num, sd s] h Q E := by
  refine wp_call rfl rfl ?_
  simp! only [e_law_read_again_5, e_law_read_again_4]
  cases num % 2 == 0 with
  | true =>
    simp! only [e_law_read_again_2]
    refine c_read g hz hl fun h' pr => ?_
    simp! only [e_law_read_again_1]
    exact c_same (by omega) (q h' pr)
  | false =>
    simp! only [e_law_read_again_3]
    refine c_read g hz hl fun h' pr => ?_
    simp! only [e_law_read_again_1]
    exact c_same (by omega) (q h' pr)
theorem c_cell {ns : List Int} {k : Int} (hk : 0 ≤ k) (q : ∀ c, Q (.int c) h) : wpCall sb P (d + 1) 10 [.rol (ns.map .int), .int k] h Q E := by
  refine wp_call rfl rfl ?_
  simp! only [e_law_cell_at_1, e_law_cell_at_2, e_law_cell_at_3]
  by_cases hl : k < (List.map D.int ns).length
  · rw [decide_eq_true hl, if_pos rfl, atI_of hk, List.getElem?_map]
    rw [List.length_map] at hl
    rw [List.getElem?_eq_getElem (by omega)]
    exact q _
  · rw [decide_eq_false hl, if_neg (by decide)]; exact q _
theorem c_draws {cell : Int} {n : Nat} (hn : n ≤ 100) (q : ∀ D, Q (.ref h.length) (h ++ [.lst (rl n D)])) : wpCall sb P (d + 1) 9 [.int cell, .int n] h Q E := by
  refine wp_call rfl rfl ?_
  simp! only [e_law_draws_1, e_law_draws_4, e_law_draws_5, e_law_draws_6]
  refine wp_rng (lo := 0) (n := n) (vs := [.int n]) (fun i σ h' => ∃ D m x, h' = h ++ [.lst (rl i D)] ∧ σ = [some (.int cell), some (.int n), some (.int m), some (.ref h.length), x]) (h1 := h ++ [.lst []]) (fun Q q => ?_) ?_ ?_ ?_ ?_
  · simp! only; exact q
  · simp [iterOf, ioV, ioR, ioE, ioZ, ioB, okR]; omega
  · exact ⟨fun _ => 0, _, _, rfl, rfl⟩
  · rintro i σ h' hi ⟨D, m, x, rfl, rfl⟩
    refine ⟨_, rfl, ?_⟩
    simp! only [e_law_draws_2, e_law_draws_3, y_lst get_new, p_app get_new (show (rl i D).length < 16777216 by rw [rl_len]; omega), set_new]
    refine ⟨fun k => if k = i then m * 48271 % 2147483647 / 13 else D k, _, _, ?_, rfl⟩
    rw [← rl_snoc, rl_congr (f := fun k => if k = i then m * 48271 % 2147483647 / 13 else D k) (g := D) (fun k hk => by simp; omega)]
    simp
  · rintro σ h' ⟨D, m, x, rfl, rfl⟩
    simp! only
    exact q D
theorem c_fresh {num : Int} {n : Nat} (hn : n ≤ 100) (q : ∀ s : S, s.length = n → (∀ c ∈ s, c ∈ L26) → Q (.str s) h) : wpCall sb P (d + 1) 11 [.int num, .int n] h Q E := by
  refine wp_call rfl rfl ?_
  simp! only [e_law_fresh_1, e_law_fresh_4, e_law_fresh_5, e_law_fresh_6]
  refine wp_rng (lo := 0) (n := n) (vs := [.int n]) (fun i σ h' => ∃ (m : Int) (s : S) (x : Option D), s.length = i ∧ (∀ c ∈ s, c ∈ L26) ∧ h' = h ∧ σ = [some (.int m), some (.int n), some (.str (tx "abcdefghijklmnopqrstuvwxyz")), some (.str s), x]) (h1 := h) (fun Q q => ?_) ?_ ?_ ?_ ?_
  · simp! only; exact q
  · simp [iterOf, ioV, ioR, ioE, ioZ, ioB, okR]; omega
  · exact ⟨num, [], _, rfl, by simp, rfl, rfl⟩
  · rintro i σ h' hi ⟨m, s, x, hs, hc, rfl, rfl⟩
    refine ⟨_, rfl, ?_⟩
    simp! only [e_law_fresh_2, e_law_fresh_3]
    rw [atI_of (Int.emod_nonneg _ (by decide))]
    have hb := Int.emod_lt_of_pos ((m * 69621 + 1) % 2147483647 / 17) (show (0 : Int) < 26 by decide)
    have hl : (tx "abcdefghijklmnopqrstuvwxyz").length = 26 := by decide
    rw [List.getElem?_eq_getElem (by rw [hl]; omega)]
    simp! only
    rw [if_pos (by omega)]
    refine ⟨_, _, _, by simp [hs], fun c h => ?_, rfl, rfl⟩
    rcases List.mem_append.mp h with h | h
    · exact hc c h
    · rw [List.mem_singleton] at h; subst h; exact List.getElem_mem _
  · rintro σ h' ⟨m, s, x, hs, hc, rfl, rfl⟩
    simp! only
    exact q s hs hc
theorem c_drawsZ {cell z : Int} (hz : 0 ≤ z) (hn : z ≤ 100) (q : ∀ D, Q (.ref h.length) (h ++ [.lst (rl z.toNat D)])) : wpCall sb P (d + 1) 9 [.int cell, .int z] h Q E := by
  obtain ⟨n, rfl⟩ := Int.eq_ofNat_of_zero_le hz
  exact c_draws (by omega) q
theorem c_freshZ {num z : Int} (hz : 0 ≤ z) (hn : z ≤ 100) (q : ∀ s : S, s.length = z.toNat → (∀ c ∈ s, c ∈ L26) → Q (.str s) h) : wpCall sb P (d + 1) 11 [.int num, .int z] h Q E := by
  obtain ⟨n, rfl⟩ := Int.eq_ofNat_of_zero_le hz
  exact c_fresh (by omega) q
noncomputable def L16 : List S := [tx "nota", tx "no", tx "ot", tx "an", tx "nd", tx "ands", tx "o", tx "r", tx "orr", tx "alway", tx "wher", tx "usual", tx "notnot", tx "ask", tx "is", tx "tell"]
structure LW (s : S) : Prop where
  lo : 1 ≤ s.length
  hi : s.length ≤ 12
  le : ∀ c ∈ s, c ∈ L26
theorem L16s : ∀ s ∈ L16, LW s := fun s hs => by
  have : ∀ s ∈ L16, 1 ≤ s.length ∧ s.length ≤ 12 ∧ s.all (fun c => L26.contains c) = true := by decide
  obtain ⟨a, b, c⟩ := this s hs
  exact ⟨a, b, fun x hx => List.contains_iff_mem.mp (List.all_eq_true.mp c x hx)⟩
theorem kw_a : ∀ {n : S}, n ∈ KW → GN (n ++ tx "a") := fun {n} hn => by
  have : ∀ n ∈ KW, 1 ≤ (n ++ tx "a").length ∧ (n ++ tx "a").length ≤ 12 ∧ (n ++ tx "a").all (fun c => L26.contains c) = true ∧ KW.contains (n ++ tx "a") = false := by decide
  obtain ⟨a, b, c, d⟩ := this n hn
  refine ⟨a, b, fun x hx => List.contains_iff_mem.mp (List.all_eq_true.mp c x hx), fun h => ?_⟩
  rw [List.contains_iff_mem.mpr h] at d
  cases d
theorem let_at (z : Int) : ∃ c, c ∈ L26 ∧ atI (tx "abcdefghijklmnopqrstuvwxyz") (z % 26) = some c := by
  have hl : (tx "abcdefghijklmnopqrstuvwxyz").length = 26 := by decide
  have h0 := Int.emod_nonneg z (show (26 : Int) ≠ 0 by decide)
  have h1 := Int.emod_lt_of_pos z (show (0 : Int) < 26 by decide)
  have hb : (z % 26).toNat < (tx "abcdefghijklmnopqrstuvwxyz").length := by rw [hl]; omega
  exact ⟨(tx "abcdefghijklmnopqrstuvwxyz")[(z % 26).toNat], (List.getElem_mem hb : _ ∈ tx "abcdefghijklmnopqrstuvwxyz"), by rw [atI_of h0, List.getElem?_eq_getElem hb]⟩
noncomputable abbrev lets : D := .str (tx "abcdefghijklmnopqrstuvwxyz")
noncomputable def NmI (cell : Int) (n sa da : Nat) (base : S) (at_ : Int) (h0 : AH) (i : Nat) : Lo → AH → Prop := fun σ h' => ∃ (ss : List S) (x8 x9 x10 : Option D), h0 <+: h' ∧ h'[h0.length]? = some (.lst (ss.map .str)) ∧ ss.length ≤ i ∧ (0 < i → ss ≠ []) ∧ (∀ s ∈ ss, GN s) ∧
    σ = [some (.int cell), some (.int n), some lets, some (.ref sa), some (.ref da), some (.str base), some (.int at_), some (.ref h0.length), x8, x9, x10]
noncomputable def NmM (cell : Int) (n sa da : Nat) (base : S) (at_ : Int) (h0 : AH) (i : Nat) : Lo → AH → Prop := fun σ h' => ∃ (ss : List S) (nm : S) (x10 : Option D), h0 <+: h' ∧ h'[h0.length]? = some (.lst (ss.map .str)) ∧ ss.length ≤ i ∧ (∀ s ∈ ss, GN s) ∧ LW nm ∧
    σ = [some (.int cell), some (.int n), some lets, some (.ref sa), some (.ref da), some (.str base), some (.int at_), some (.ref h0.length), some (.int (0 + i)), some (.str nm), x10]
theorem c_names_rest {cell : Int} {n sa : Nat} (h1 : 1 ≤ n) (h2 : n ≤ 12) (hs : h[sa]? = some (.lst (L16.map .str))) (q : ∀ h' r ss, h <+: h' → h.length ≤ r → h'[r]? = some (.lst (ss.map .str)) → ss ≠ [] → ss.length ≤ 12 → (∀ s ∈ ss, GN s) → Q (.ref r) h') :
    wpSs sb (wpCall sb P (d + 1)) E b_law_names_16 { nx := fun _ h => Q .non h, rt := Q } [some (.int cell), some (.int n), some lets, some (.ref sa), none, none, none, none, none, none, none] h := by
  simp! only [e_law_names_16]
  refine c_drawsZ (by decide) (by decide) fun D => ?_
  have e26 : rl (26 : Int).toNat D = rl 26 D := rfl
  rw [e26]
  obtain ⟨v0, e0⟩ := atI_rl (n := 26) (f := D) (z := 0) (by decide) (by decide)
  obtain ⟨v1, e1⟩ := atI_rl (n := 26) (f := D) (z := 1) (by decide) (by decide)
  obtain ⟨v2, e2⟩ := atI_rl (n := 26) (f := D) (z := 2) (by decide) (by decide)
  obtain ⟨v20, e20⟩ := atI_rl (n := 26) (f := D) (z := 20) (by decide) (by decide)
  obtain ⟨v21, e21⟩ := atI_rl (n := 26) (f := D) (z := 21) (by decide) (by decide)
  obtain ⟨v22, e22⟩ := atI_rl (n := 26) (f := D) (z := 22) (by decide) (by decide)
  obtain ⟨v23, e23⟩ := atI_rl (n := 26) (f := D) (z := 23) (by decide) (by decide)
  have hd : (h ++ [AO.lst (rl 26 D)])[h.length]? = some (.lst (rl 26 D)) := get_new
  simp! only [e_law_names_15, q_idxL hd, e0, e1]
  have hb1 := Int.emod_nonneg v1 (show (12 : Int) ≠ 0 by decide)
  have hb2 := Int.emod_lt_of_pos v1 (show (0 : Int) < 12 by decide)
  refine c_freshZ (by omega) (by omega) fun base hbase hbc => ?_
  have hbl : 1 ≤ base.length ∧ base.length ≤ 12 := by rw [hbase]; omega
  simp! only [e_law_names_14, q_idxL hd, e2, p_mod (show (0 : Int) < base.length by omega), e_law_names_13, e_law_names_12]
  have at0 := Int.emod_nonneg v2 (show (base.length : Int) ≠ 0 by omega)
  have at1 := Int.emod_lt_of_pos v2 (show (0 : Int) < base.length by omega)
  generalize v2 % (base.length : Int) = at_ at at0 at1
  have hs' : (h ++ [AO.lst (rl 26 D)])[sa]? = some (.lst (L16.map .str)) := get_app hs
  have pre0 : h <+: h ++ [AO.lst (rl 26 D)] := List.prefix_append _ _
  generalize hd0 : h.length = da at hd
  generalize h ++ [AO.lst (rl 26 D)] = h0 at hd hs' pre0
  refine wp_rng (lo := 0) (n := n) (vs := [.int n]) (h1 := h0 ++ [.lst []]) (NmI cell n sa da base at_ h0) (fun Q q => by simp! only; exact q) (by simp [iterOf, ioV, ioR, ioE, ioZ, ioB, okR]; omega) ⟨[], none, none, none, List.prefix_append _ _, by simp, by simp, by simp, by simp, rfl⟩ ?_ ?_
  · rintro i σ h' hi ⟨ss, x8, x9, x10, pr, hn, hl, hne, hg, rfl⟩
    refine ⟨_, rfl, ?_⟩
    have hdl := pre_get pr hd
    have hsl := pre_get pr hs'
    obtain ⟨w3, e3⟩ := atI_rl (n := 26) (f := D) (z := 3 + (0 + (i : Int))) (by omega) (by omega)
    obtain ⟨w4, e4⟩ := atI_rl (n := 26) (f := D) (z := 4 + (0 + (i : Int))) (by omega) (by omega)
    simp! only [e_law_names_11, q_idxL hdl, e3, e4]
    have hc1 := Int.emod_nonneg (w4 / 5) (show (12 : Int) ≠ 0 by decide)
    have hc2 := Int.emod_lt_of_pos (w4 / 5) (show (0 : Int) < 12 by decide)
    refine c_freshZ (by omega) (by omega) fun name hname hnc => ?_
    rw [e_law_names_10]
    refine wp_seq (NmM cell n sa da base at_ h0 i) ?_ ?_
    · simp! only [q_idxL hdl, e20]
      by_cases hc : v20 % 4 < 2
      · rw [decide_eq_true hc]
        have hdl' := fun o => get_app (l := [o]) hdl
        obtain ⟨w, hw, ew⟩ := atI_ex (xs := [Z.D.int 1, .int 3, .int 5, .int 7, .int 9, .int 11]) (z := v22 % 6) (Int.emod_nonneg _ (by decide)) (Int.emod_lt_of_pos _ (by decide))
        obtain ⟨wi, rfl⟩ : ∃ wi : Int, w = .int wi := by
          simp only [List.mem_cons, List.not_mem_nil, or_false] at hw
          rcases hw with e | e | e | e | e | e <;> exact ⟨_, e⟩
        obtain ⟨c, hcl, ec⟩ := let_at (v21 + (0 + (i : Int)) * wi)
        simp! only [e_law_names_9, e_law_names_8, q_idxL (hdl' _), q_idxL hdl, e21, e22, q_idxL get_new, ew, p_mulI' (show -18446744073709551616 < 0 + (i : Int) ∧ 0 + (i : Int) < 18446744073709551616 by omega), ec]
        have cl1 : (cut base none (some at_)).length = at_.toNat := by
          simp only [cut, sIx]; rw [if_neg (by omega), List.length_take, List.length_drop]; omega
        have cl2 : (cut base (some (at_ + 1)) none).length = base.length - (at_.toNat + 1) := by
          simp only [cut, sIx]; rw [if_neg (by omega), List.length_take, List.length_drop]; omega
        have c1 := cut_len (xs := base) (lo := none) (hi := some at_)
        have c2 := cut_len (xs := base) (lo := some (at_ + 1)) (hi := none)
        rw [if_pos (by omega)]
        simp! only
        rw [if_pos (by simp only [List.length_append, List.length_cons, List.length_nil]; omega)]
        simp! only
        refine ⟨ss, _, _, pre_app pr, get_app hn, hl, hg, ?_, rfl⟩
        refine ⟨by simp only [List.length_append, List.length_cons, List.length_nil]; omega, by rw [List.length_append, List.length_append, cl1, cl2]; simp only [List.length_cons, List.length_nil]; omega, fun x hx => ?_⟩
        rcases List.mem_append.mp hx with hx | hx
        · rcases List.mem_append.mp hx with hx | hx
          · exact hbc x (cut_mem hx)
          · rw [List.mem_singleton] at hx; subst hx; exact hcl
        · exact hbc x (cut_mem hx)
      · rw [decide_eq_false hc]
        simp! only
        exact ⟨ss, name, _, pr, hn, hl, hg, ⟨by rw [hname]; omega, by rw [hname]; omega, hnc⟩, rfl⟩
    · rintro σ1 h3 ⟨ss, name, x10, pr, hn, hl, hg, hnl, rfl⟩
      have hdl := pre_get pr hd
      have hsl := pre_get pr hs'
      rw [e_law_names_7]
      refine wp_seq (NmM cell n sa da base at_ h0 i) ?_ ?_
      · simp! only [q_idxL hdl, e20]
        cases hc : v20 % 4 == 2 with
        | true =>
          obtain ⟨w, hw, ew⟩ := atI_ex (xs := L16.map Z.D.str) (z := (v23 + 3 * (0 + (i : Int))) % 16) (Int.emod_nonneg _ (by decide)) (Int.emod_lt_of_pos _ (by decide))
          obtain ⟨s, hs, rfl⟩ := List.mem_map.mp hw
          simp! only [e_law_names_6, q_idxL hdl, e23, q_idxL hsl, ew]
          exact ⟨ss, s, _, pr, hn, hl, hg, L16s s hs, rfl⟩
        | false =>
          simp! only
          exact ⟨ss, name, _, pr, hn, hl, hg, hnl, rfl⟩
      · rintro σ1 h3 ⟨ss, name, x10, pr, hn, hl, hg, hnl, rfl⟩
        have e6 : inDs (.str name) [.str (tx "always"), .str (tx "where"), .str (tx "usually"), .str (tx "not"), .str (tx "and"), .str (tx "or")] = some _ := inDs_str (x := name) (ss := [tx "always", tx "where", tx "usually", tx "not", tx "and", tx "or"])
        have k3 : ∀ nm : S, GN nm → wpSs sb (wpCall sb P (d + 1)) E b_law_names_3 { nx := NmI cell n sa da base at_ h0 (i + 1), rt := Q, bk := fun σ' h' => wpSs sb (wpCall sb P (d + 1)) E b_law_names_1 { nx := fun _ h => Q .non h, rt := Q } σ' h', ct := NmI cell n sa da base at_ h0 (i + 1) }
            [some (.int cell), some (.int n), some lets, some (.ref sa), some (.ref da), some (.str base), some (.int at_), some (.ref h0.length), some (.int (0 + i)), some (.str nm), x10] h3 := by
          intro nm hgn
          simp! only [e_law_names_3, q_notin_L hn, inDs_str]
          cases hc : ss.contains nm with
          | true =>
            simp! only
            refine ⟨ss, _, _, _, pr, hn, by omega, fun _ z => ?_, hg, rfl⟩
            subst z; cases hc
          | false =>
            simp! only [e_law_names_2, y_lst hn, p_app hn (show (ss.map Z.D.str).length < 16777216 by rw [List.length_map]; omega)]
            exact ⟨ss ++ [nm], _, _, _, pre_set pr (Nat.le_refl _), by rw [get_set hn]; simp, by simp; omega, fun _ => by simp, fun s hs => by
              rcases List.mem_append.mp hs with hs | hs
              · exact hg s hs
              · rw [List.mem_singleton] at hs; subst hs; exact hgn, rfl⟩
        simp! only [e_law_names_5, e6]
        cases bb : ([tx "always", tx "where", tx "usually", tx "not", tx "and", tx "or"] : List S).contains name with
        | true =>
          simp! only [e_law_names_4]
          rw [if_pos (by have : (tx "a").length = 1 := rfl; have := hnl.hi; omega)]
          simp! only
          exact k3 _ (kw_a (List.contains_iff_mem.mp bb))
        | false =>
          simp! only
          exact k3 _ ⟨hnl.lo, hnl.hi, hnl.le, fun hk => by have e := List.contains_iff_mem.mpr hk; exact absurd (e.symm.trans bb) (by decide)⟩
  · rintro σ h' ⟨ss, x8, x9, x10, pr, hn, hl, hne, hg, rfl⟩
    simp! only [e_law_names_1]
    exact q h' _ ss (pre0.trans pr) (pre_len pre0) hn (hne (by omega)) (by omega) hg
theorem c_names {cell : Int} {n : Nat} (h1 : 1 ≤ n) (h2 : n ≤ 12) (q : ∀ h' r ss, h <+: h' → h.length ≤ r → h'[r]? = some (.lst (ss.map .str)) → ss ≠ [] → ss.length ≤ 12 → (∀ s ∈ ss, GN s) → Q (.ref r) h') : wpCall sb P (d + 2) 12 [.int cell, .int n] h Q E := by
  refine wp_call rfl rfl ?_
  simp! only [e_law_names_19, e_law_names_18, e_law_names_17]
  rw [p_addL (get_app get_new) get_new (by simp)]
  simp! only
  refine c_names_rest h1 h2 get_new fun h' r ss pr hr => q h' r ss (((List.prefix_append _ _).trans ((List.prefix_append _ _).trans (List.prefix_append _ _))).trans pr) ?_
  simp at hr; omega
theorem c_namesZ {cell z : Int} (h1 : 1 ≤ z) (h2 : z ≤ 12) (q : ∀ h' r ss, h <+: h' → h.length ≤ r → h'[r]? = some (.lst (ss.map .str)) → ss ≠ [] → ss.length ≤ 12 → (∀ s ∈ ss, GN s) → Q (.ref r) h') : wpCall sb P (d + 2) 12 [.int cell, .int z] h Q E := by
  obtain ⟨n, rfl⟩ := Int.eq_ofNat_of_zero_le (show 0 ≤ z by omega)
  exact c_names (by omega) (by omega) q
noncomputable def itm (s : Sn) : D := .tup [sd s, .int (sz s), .int (lv s)]
noncomputable def GS (s : Sn) : Prop := ∀ n ∈ nm s, GN n
theorem itm_at {xs : List Sn} {z : Int} (hx : xs ≠ []) : ∃ p ∈ xs, atI (xs.map itm) (z % (xs.length : Int)) = some (itm p) := by
  have hl : 0 < xs.length := List.length_pos_iff.mpr hx
  obtain ⟨v, hv, e⟩ := atI_ex (xs := xs.map itm) (z := z % (xs.length : Int)) (Int.emod_nonneg _ (by omega)) (by rw [List.length_map]; exact Int.emod_lt_of_pos _ (by omega))
  obtain ⟨p, hp, rfl⟩ := List.mem_map.mp hv
  exact ⟨p, hp, e⟩
theorem q_itm0 {s : Sn} : prim sb .idx [itm s, .int 0] h = some (sd s, h) := rfl
theorem q_itm1 {s : Sn} : prim sb .idx [itm s, .int 1] h = some (.int (sz s), h) := rfl
theorem q_itm2 {s : Sn} : prim sb .idx [itm s, .int 2] h = some (.int (lv s), h) := rfl
theorem max_nat {a b : Nat} : (if (b : Int) > (a : Int) then (b : Int) else a) + 1 = ((max a b + 1 : Nat) : Int) := by split <;> omega
theorem gn_last {one other : Sn} {kind : S} {mk : Sn → Sn → Sn} {x0 x1 x2 x3 : Option D} (m1 : ∀ a b, sd (mk a b) = .tup [.str kind, sd a, sd b]) (m3 : ∀ a b, sz (mk a b) = sz a + sz b + 1) (m4 : ∀ a b, lv (mk a b) = max (lv a) (lv b) + 1) (q : Q (itm (mk one other)) h) :
    wpSs sb (wpCall sb P d) E b_law_grown_1 { nx := fun _ h => Q .non h, rt := Q } [x0, x1, x2, x3, some (itm one), some (itm other), some (.str kind)] h := by
  simp! only [e_law_grown_1, q_itm0, q_itm1, q_itm2, max_nat]
  unfold itm at q
  rw [m1, m3, m4] at q
  exact q
theorem c_grown {pa na : Nat} {pl : List Sn} {N : List S} {cell : Int} (hp : h[pa]? = some (.lst (pl.map itm))) (hpl : pl ≠ []) (hok : ∀ p ∈ pl, GS p) (hn : h[na]? = some (.lst (N.map .str))) (hN : N ≠ []) (hNg : ∀ n ∈ N, GN n)
    (q : ∀ h' s, h <+: h' → GS s → Q (itm s) h') : wpCall sb P (d + 2) 14 [.ref pa, .int cell, .ref na] h Q E := by
  refine wp_call rfl rfl ?_
  simp! only [e_law_grown_15]
  refine c_drawsZ (by decide) (by decide) fun D => ?_
  rw [show rl (6 : Int).toNat D = rl 6 D from rfl]
  obtain ⟨v0, e0⟩ := atI_rl (n := 6) (f := D) (z := 0) (by decide) (by decide)
  obtain ⟨v1, e1⟩ := atI_rl (n := 6) (f := D) (z := 1) (by decide) (by decide)
  obtain ⟨v2, e2⟩ := atI_rl (n := 6) (f := D) (z := 2) (by decide) (by decide)
  obtain ⟨v3, e3⟩ := atI_rl (n := 6) (f := D) (z := 3) (by decide) (by decide)
  obtain ⟨v4, e4⟩ := atI_rl (n := 6) (f := D) (z := 4) (by decide) (by decide)
  obtain ⟨v5, e5⟩ := atI_rl (n := 6) (f := D) (z := 5) (by decide) (by decide)
  have hd : (h ++ [AO.lst (rl 6 D)])[h.length]? = some (.lst (rl 6 D)) := get_new
  have pr0 : h <+: h ++ [AO.lst (rl 6 D)] := List.prefix_append _ _
  have hp0 := pre_get pr0 hp
  have hn0 := pre_get pr0 hn
  have hlp : 0 < pl.length := List.length_pos_iff.mpr hpl
  have hlN : 0 < N.length := List.length_pos_iff.mpr hN
  obtain ⟨lp, hlpm, elp⟩ : ∃ p ∈ pl, atI (pl.map itm) (-1) = some (itm p) := by
    refine ⟨pl.getLast hpl, List.getLast_mem hpl, ?_⟩
    rw [atI_m1, List.getLast?_map, List.getLast?_eq_getLast hpl]; rfl
  generalize h.length = da at hd
  generalize h ++ [AO.lst (rl 6 D)] = h0 at hd pr0 hp0 hn0
  simp! only [e_law_grown_14, q_idxL hp0, elp]
  rw [e_law_grown_13]
  refine wp_seq (fun σ h' => h' = h0 ∧ ∃ p ∈ pl, σ = [some (.ref pa), some (.int cell), some (.ref na), some (.ref da), some (itm p), none, none]) ?_ ?_
  · simp! only [q_idxL hd, e0]
    cases v0 % 3 == 0 with
    | true =>
      obtain ⟨p, hpm, ep⟩ := itm_at (z := v1) hpl
      simp! only [e_law_grown_12, q_idxL hd, e1, p_lenL hp0, List.length_map, p_mod (show (0 : Int) < pl.length by omega), q_idxL hp0, ep]
      exact ⟨p, hpm, rfl⟩
    | false =>
      simp! only
      exact ⟨lp, hlpm, rfl⟩
  · rintro σ h' ⟨rfl, one, hone, rfl⟩
    obtain ⟨w, hw, ew⟩ := atI_ex (xs := N.map Z.D.str) (z := v2 % ((N.length : Nat) : Int)) (Int.emod_nonneg _ (by omega)) (by rw [List.length_map]; exact Int.emod_lt_of_pos _ (by omega))
    obtain ⟨nme, hnm, rfl⟩ := List.mem_map.mp hw
    simp! only [e_law_grown_11, q_idxL hd, e2, p_lenL hn0, List.length_map, p_mod (show (0 : Int) < N.length by omega), q_idxL hn0, ew]
    rw [e_law_grown_10]
    have gis : GS (.is nme) := fun n hn => by simp [nm] at hn; subst hn; exact hNg _ hnm
    refine wp_seq (fun σ h2 => h2 = h' ∧ ∃ o, GS o ∧ σ = [some (.ref pa), some (.int cell), some (.ref na), some (.ref da), some (itm one), some (itm o), none]) ?_ ?_
    · simp! only [q_idxL hd, e3]
      cases v3 % 2 == 0 with
      | true =>
        obtain ⟨p, hpm, ep⟩ := itm_at (z := v4) hpl
        simp! only [e_law_grown_9, q_idxL hd, e4, p_lenL hp0, List.length_map, p_mod (show (0 : Int) < pl.length by omega), q_idxL hp0, ep]
        exact ⟨p, hok p hpm, rfl⟩
      | false =>
        simp! only
        exact ⟨.is nme, gis, rfl⟩
    · rintro σ h2 ⟨rfl, other, hoth, rfl⟩
      obtain ⟨k, hk, ek⟩ := atI_ex (xs := [Z.D.str (tx "not"), .str (tx "and"), .str (tx "or"), .str (tx "and"), .str (tx "or"), .str (tx "is")]) (z := v5 % 6) (Int.emod_nonneg _ (by decide)) (Int.emod_lt_of_pos _ (by decide))
      have hd2 := fun o => get_app (l := [o]) hd
      have hone1 := hok one hone
      simp! only [e_law_grown_8, q_idxL (hd2 _), e5, q_idxL get_new, ek, e_law_grown_7]
      have pr2 := pre_app (l := [AO.lst [Z.D.str (tx "not"), .str (tx "and"), .str (tx "or"), .str (tx "and"), .str (tx "or"), .str (tx "is")]]) pr0
      have hd3 := hd2 (AO.lst [Z.D.str (tx "not"), .str (tx "and"), .str (tx "or"), .str (tx "and"), .str (tx "or"), .str (tx "is")])
      clear hd2 hd hp0 hn0 pr0
      generalize h2 ++ [AO.lst [Z.D.str (tx "not"), .str (tx "and"), .str (tx "or"), .str (tx "and"), .str (tx "or"), .str (tx "is")]] = h3 at pr2 hd3
      have two : ∀ (kind : S) (mk : Sn → Sn → Sn), (∀ a b, sd (mk a b) = .tup [.str kind, sd a, sd b]) → (∀ a b, nm (mk a b) = nm a ++ nm b) → (∀ a b, sz (mk a b) = sz a + sz b + 1) → (∀ a b, lv (mk a b) = max (lv a) (lv b) + 1) → wpSs sb (wpCall sb P (d + 1)) E b_law_grown_3 { nx := fun x h => Q .non h, rt := Q }
          [some (.ref pa), some (.int cell), some (.ref na), some (.ref da), some (itm one), some (itm other), some (.str kind)] h3 := by
        intro kind mk m1 m2 m3 m4
        have gm : ∀ a b, GS a → GS b → GS (mk a b) := fun a b ga gb n hn => by
          rw [m2] at hn
          rcases List.mem_append.mp hn with hn | hn
          · exact ga n hn
          · exact gb n hn
        simp! only [e_law_grown_3, q_idxL hd3, e0]
        cases v0 / 3 % 2 == 0 with
        | true =>
          simp! only [e_law_grown_2]
          exact gn_last m1 m3 m4 (q h3 _ pr2 (gm _ _ hoth hone1))
        | false =>
          simp! only
          exact gn_last m1 m3 m4 (q h3 _ pr2 (gm _ _ hone1 hoth))
      simp only [List.mem_cons, List.not_mem_nil, or_false] at hk
      have kAnd : k = .str (tx "and") → wpSs sb (wpCall sb P (d + 1)) E b_law_grown_5 { nx := fun x h => Q .non h, rt := Q } [some (.ref pa), some (.int cell), some (.ref na), some (.ref da), some (itm one), some (itm other), some k] h3 := by
        rintro rfl
        simp! only [e_law_grown_5, s_an_nt]
        exact two (tx "and") .an (fun _ _ => rfl) (fun _ _ => rfl) (fun _ _ => rfl) (fun _ _ => rfl)
      have kOr : k = .str (tx "or") → wpSs sb (wpCall sb P (d + 1)) E b_law_grown_5 { nx := fun x h => Q .non h, rt := Q } [some (.ref pa), some (.int cell), some (.ref na), some (.ref da), some (itm one), some (itm other), some k] h3 := by
        rintro rfl
        simp! only [e_law_grown_5, s_or_nt]
        exact two (tx "or") .or (fun _ _ => rfl) (fun _ _ => rfl) (fun _ _ => rfl) (fun _ _ => rfl)
      rcases hk with e | e | e | e | e | e
      · subst e
        simp! only [s_nt_is, e_law_grown_5, s_nt_nt, e_law_grown_4, q_itm0, q_itm1, q_itm2]
        exact q h3 (.nt one) pr2 hone1
      · have := kAnd e; subst e; simp! only [s_an_is]; exact this
      · have := kOr e; subst e; simp! only [s_or_is]; exact this
      · have := kAnd e; subst e; simp! only [s_an_is]; exact this
      · have := kOr e; subst e; simp! only [s_or_is]; exact this
      · subst e
        simp! only [s_is_is, e_law_grown_6]
        exact q h3 other pr2 hoth
structure LI (N : List S) (cells : List D) (na pa ca : Nat) (h : AH) (pl : List Sn) : Prop where
  p : h[pa]? = some (.lst (pl.map itm))
  n : h[na]? = some (.lst (N.map .str))
  c : h[ca]? = some (.lst cells)
  g : ∀ s ∈ pl, GS s
  d : na ≠ pa ∧ ca ≠ pa
theorem LI.pre {N : List S} {cells : List D} {na pa ca : Nat} {h h' : AH} {pl : List Sn} (k : LI N cells na pa ca h pl) (pr : h <+: h') : LI N cells na pa ca h' pl :=
  ⟨pre_get pr k.p, pre_get pr k.n, pre_get pr k.c, k.g, k.d⟩
theorem LI.add {N : List S} {cells : List D} {na pa ca : Nat} {h : AH} {pl : List Sn} (k : LI N cells na pa ca h pl) {s : Sn} (g : GS s) : LI N cells na pa ca (h.set pa (.lst (pl.map itm ++ [itm s]))) (pl ++ [s]) := by
  refine ⟨by rw [get_set k.p]; simp, get_set_ne k.n (Ne.symm k.d.1), get_set_ne k.c (Ne.symm k.d.2), fun x hx => ?_, k.d⟩
  rcases List.mem_append.mp hx with hx | hx
  · exact k.g x hx
  · rw [List.mem_singleton] at hx; subst hx; exact g
noncomputable def LP (scr : D) (N : List S) (cells : List D) (na pa ca : Nat) (i : Nat) : Lo → AH → Prop := fun σ h' => ∃ (pl : List Sn) (x3 x4 x5 x6 : Option D), LI N cells na pa ca h' pl ∧ pl ≠ [] ∧ pl.length ≤ i + 1 ∧ σ = [some scr, some (.ref na), some (.ref pa), x3, x4, x5, x6]
theorem c_turn {scr : D} {N : List S} {cells : List D} {na pa ca i : Nat} {cell : Int} {pl : List Sn} {x4 x5 x6 : Option D} {R : PV} {B C : Lo → AH → Prop} (hN : N ≠ []) (hNg : ∀ n ∈ N, GN n) (hi : i ≤ 1000) (I : LI N cells na pa ca h pl) (hpl : pl ≠ []) (hpn : pl.length ≤ i + 1) :
    wpSs sb (wpCall sb P (d + 46)) E b_law_10 { nx := LP scr N cells na pa ca (i + 1), rt := R, bk := B, ct := C } [some scr, some (.ref na), some (.ref pa), some (.int cell), x4, x5, x6] h := by
  simp! only [e_law_10]
  refine c_grown I.p hpl I.g I.n hN hNg fun h2 s pr gs => ?_
  have I2 := I.pre pr
  have stay : LP scr N cells na pa ca (i + 1) [some scr, some (.ref na), some (.ref pa), some (.int cell), some (itm s), x5, x6] h2 := ⟨pl, _, _, _, _, I2, hpl, by omega, rfl⟩
  simp! only [e_law_9, q_itm1, q_itm2]
  by_cases c1 : (sz s : Int) ≤ 120
  · rw [decide_eq_true c1]
    simp! only
    by_cases c2 : (lv s : Int) ≤ 40
    · rw [decide_eq_true c2]
      have I3 := I2.add gs
      simp! only [e_law_8, y_lst I2.p, p_app I2.p (show (pl.map itm).length < 16777216 by rw [List.length_map]; omega), e_law_7, q_itm0]
      refine c_text (l := 0) gs (by omega) (by omega) (by omega) ?_
      simp! only [e_law_6, q_itm0]
      refine c_shown gs (by omega) (by omega) ?_
      simp! only [e_law_5, q_isS, beq_self_eq_true, e_law_3]
      by_cases c3 : ((sh s 0).length : Int) ≤ 120
      · rw [decide_eq_true c3]
        simp! only [p_lenL I3.p, q_itm0]
        refine c_again gs (by omega) (by omega) (by omega) fun h4 pr4 => ?_
        simp! only
        exact ⟨pl ++ [s], _, _, _, _, I3.pre pr4, by simp, by simp; omega, rfl⟩
      · rw [decide_eq_false c3]
        simp! only
        exact ⟨pl ++ [s], _, _, _, _, I3, by simp, by simp; omega, rfl⟩
    · rw [decide_eq_false c2]
      simp! only
      exact stay
  · rw [decide_eq_false c1]
    simp! only
    exact stay
theorem law_rest {ns : List Int} {N : List S} {na pa : Nat} {w : S} {R : PV} (hl : ns.length ≤ 63) (hN : N ≠ []) (hNg : ∀ n ∈ N, GN n) (hw : w ∈ N) (h1 : h[na]? = some (.lst (N.map .str))) (h2 : h[pa]? = some (.lst [itm (.is w)])) (d2 : na ≠ pa) (q : ∀ h, R (.bl true) h) :
    wpSs sb (wpCall sb P (d + 46)) E b_law_11 { nx := fun x h => R .non h, rt := R } [some (.rol (ns.map .int)), some (.ref na), some (.ref pa), none, none, none, none] h := by
  rw [e_law_11]
  have hcl : (cut (ns.map Z.D.int) (some 1) (some 41)).length ≤ 63 := Nat.le_trans cut_len (by simpa using hl)
  have hc1 : ((h ++ [AO.lst [Z.D.int 0]]) ++ [.lst (cut (ns.map Z.D.int) (some 1) (some 41))])[h.length]? = some (.lst [Z.D.int 0]) := get_app get_new
  have pr : h <+: (h ++ [AO.lst [Z.D.int 0]]) ++ [.lst (cut (ns.map Z.D.int) (some 1) (some 41))] ++ [.lst ([Z.D.int 0] ++ cut (ns.map Z.D.int) (some 1) (some 41))] := pre_app (pre_app (List.prefix_append _ _))
  generalize hcells : [Z.D.int 0] ++ cut (ns.map Z.D.int) (some 1) (some 41) = cells at pr
  have hci : ∀ v ∈ cells, ∃ c : Int, v = .int c := by
    rw [← hcells]
    intro v hv
    rcases List.mem_append.mp hv with hv | hv
    · rw [List.mem_singleton] at hv; exact ⟨0, hv⟩
    · obtain ⟨c, _, e⟩ := List.mem_map.mp (cut_mem hv)
      exact ⟨c, e.symm⟩
  have hcn : cells.length ≤ 64 := by rw [← hcells]; simp; omega
  have pg : ∀ {n : Nat} {o : AO}, h[n]? = some o → ((h ++ [AO.lst [Z.D.int 0]]) ++ [.lst (cut (ns.map Z.D.int) (some 1) (some 41))] ++ [AO.lst cells])[n]? = some o := fun e => pre_get pr e
  have ca1 : List.length ((h ++ [AO.lst [Z.D.int 0]]) ++ [AO.lst (cut (ns.map Z.D.int) (some 1) (some 41))]) = h.length + 2 := by simp
  have I : LI N cells na pa (h.length + 2) ((h ++ [AO.lst [Z.D.int 0]]) ++ [.lst (cut (ns.map Z.D.int) (some 1) (some 41))] ++ [AO.lst cells]) [.is w] := by
    refine ⟨pg h2, pg h1, by rw [← ca1]; exact get_new, fun x hx => ?_, d2, ?_⟩
    · rw [List.mem_singleton] at hx; subst hx
      intro n hn; simp [nm] at hn; subst hn; exact hNg _ hw
    · have := get_lt h2; omega
  refine wp_for (xs := cells) (J := itList (h.length + 2)) (vs := [.ref (h.length + 2)]) (h1 := (h ++ [AO.lst [Z.D.int 0]]) ++ [.lst (cut (ns.map Z.D.int) (some 1) (some 41))] ++ [AO.lst cells]) (LP (.rol (ns.map .int)) N cells na pa (h.length + 2)) ?_ (it_lst I.c) ⟨[.is w], _, _, _, _, I, by simp, by simp, rfl⟩ ?_ ?_ ?_
  · intro Q q
    simp! only [sl_rol (show (ns.map Z.D.int).length ≤ 16777216 by simp; omega)]
    rw [p_addL hc1 get_new (by rw [hcells]; omega), hcells]
    simp! only
    rw [ca1]
    exact q
  · rintro i σ h' _ ⟨pl, x3, x4, x5, x6, I, _⟩
    simp only [itList, I.c]
  · rintro i v σ h' ev ⟨pl, x3, x4, x5, x6, I, a, b, rfl⟩
    obtain ⟨cell, rfl⟩ := hci v (List.mem_of_getElem? ev)
    have := (List.getElem?_eq_some_iff.mp ev).1
    exact ⟨_, rfl, c_turn hN hNg (by omega) I a b⟩
  · rintro σ h' ⟨pl, x3, x4, x5, x6, I, _, _, rfl⟩
    simp! only [e_law_1]
    exact q h'
theorem law_wp (ns : List Int) (hl : ns.length ≤ 63) : wpCall sb P 50 17 [.rol (ns.map .int)] [] (fun d _ => d = .bl true) fun _ _ => False := by
  refine wp_call rfl rfl ?_
  simp! only [e_law_13]
  refine c_cell (by decide) fun c => ?_
  refine c_namesZ (by decide) (by decide) fun h1 na N pr1 _ hN1 hN hNl hNg => ?_
  obtain ⟨w, N', rfl⟩ := List.exists_cons_of_ne_nil hN
  have e0 : atI (Z.D.str w :: N'.map Z.D.str) 0 = some (.str w) := by rw [atI_of (by decide)]; rfl
  have g1 := get_lt hN1
  simp! only [e_law_12, q_idxL hN1, e0]
  exact law_rest (R := fun d _ => d = .bl true) hl hN hNg (w := w) (by simp) (get_app hN1) get_new (by omega) fun _ => rfl
end
end K01
set_option maxRecDepth 100000
set_option maxHeartbeats 4000000
namespace K01
open PySem PySem.Spec PyProof.Rows L2 ZS
noncomputable def top (i : Nat) : Stmt := PySem.Challenge.pw_wontbook_k01_a_sentence.main.body.getD i (.Pass ⟨0, 0, 0, 0⟩)
noncomputable def inner (i j : Nat) : Stmt := match top i with | .ClassDef _ _ _ b _ _ _ _ _ _ _ => b.getD j (.Pass ⟨0, 0, 0, 0⟩) | _ => .Pass ⟨0, 0, 0, 0⟩
structure Txt (K : PySem.W.Frag) (w : World) (mg : Str → Option Value) (f0 f1 f2 f3 f4 f5 f6 f7 f8 f9 f10 f11 f12 f13 f14 f15 f16 f17 c0 c1 c2 c3 : Addr) (e0 e1 e2 e3 e4 e5 e6 e7 e8 e9 e10 e11 e12 e13 e14 e15 e16 e17 : FuncData) : Prop where
  u0 : FnD K "read_sentence" (top 14) f0 e0
  g0 : Binds K e0 ["text", "row"] []
  gd0 : BnD K e0 ["text", "row"] (.int 0)
  m0 : mg "read_sentence" = some (.ref f0)
  k0 : PySem.W.keepIn K (.ref f0) = true
  u1 : Fun K "tokens_of" "tokens_of" (top 15) f1 e1
  g1 : Binds K e1 ["text"] []
  m1 : mg "tokens_of" = some (.ref f1)
  k1 : PySem.W.keepIn K (.ref f1) = true
  u2 : Fun K "piece_at" "piece_at" (top 16) f2 e2
  g2 : Binds K e2 ["text", "place"] []
  m2 : mg "piece_at" = some (.ref f2)
  k2 : PySem.W.keepIn K (.ref f2) = true
  u3 : Fun K "word_end" "word_end" (top 17) f3 e3
  g3 : Binds K e3 ["text", "place"] []
  m3 : mg "word_end" = some (.ref f3)
  k3 : PySem.W.keepIn K (.ref f3) = true
  u4 : Fun K "is_name" "is_name" (top 18) f4 e4
  g4 : Binds K e4 ["word"] []
  m4 : mg "is_name" = some (.ref f4)
  k4 : PySem.W.keepIn K (.ref f4) = true
  u5 : Fun K "put_together" "put_together" (top 19) f5 e5
  g5 : Binds K e5 ["tokens"] []
  m5 : mg "put_together" = some (.ref f5)
  k5 : PySem.W.keepIn K (.ref f5) = true
  u6 : Fun K "ended" "ended" (top 20) f6 e6
  g6 : Binds K e6 ["begun", "whole", "joints"] []
  m6 : mg "ended" = some (.ref f6)
  k6 : PySem.W.keepIn K (.ref f6) = true
  u7 : Fun K "shown_sentence" "shown_sentence" (top 21) f7 e7
  g7 : Binds K e7 ["sentence"] []
  m7 : mg "shown_sentence" = some (.ref f7)
  k7 : PySem.W.keepIn K (.ref f7) = true
  u8 : Fun K "shown_part" "shown_part" (top 22) f8 e8
  g8 : Binds K e8 ["sentence", "least"] []
  m8 : mg "shown_part" = some (.ref f8)
  k8 : PySem.W.keepIn K (.ref f8) = true
  u9 : Fun K "_law_draws" "_law_draws" (top 24) f9 e9
  g9 : Binds K e9 ["cell", "count"] []
  m9 : mg "_law_draws" = some (.ref f9)
  k9 : PySem.W.keepIn K (.ref f9) = true
  u10 : Fun K "_law_cell_at" "_law_cell_at" (top 25) f10 e10
  g10 : Binds K e10 ["script", "k"] []
  m10 : mg "_law_cell_at" = some (.ref f10)
  k10 : PySem.W.keepIn K (.ref f10) = true
  u11 : Fun K "_law_fresh" "_law_fresh" (top 26) f11 e11
  g11 : Binds K e11 ["number", "size"] []
  m11 : mg "_law_fresh" = some (.ref f11)
  k11 : PySem.W.keepIn K (.ref f11) = true
  u12 : Fun K "_law_names" "_law_names" (top 27) f12 e12
  g12 : Binds K e12 ["cell", "size"] []
  m12 : mg "_law_names" = some (.ref f12)
  k12 : PySem.W.keepIn K (.ref f12) = true
  u13 : Fun K "_law_text" "_law_text" (top 28) f13 e13
  g13 : Binds K e13 ["tree", "under"] []
  m13 : mg "_law_text" = some (.ref f13)
  k13 : PySem.W.keepIn K (.ref f13) = true
  u14 : Fun K "_law_grown" "_law_grown" (top 29) f14 e14
  g14 : Binds K e14 ["pool", "cell", "names"] []
  m14 : mg "_law_grown" = some (.ref f14)
  k14 : PySem.W.keepIn K (.ref f14) = true
  u15 : Fun K "_law_same" "_law_same" (top 30) f15 e15
  g15 : Binds K e15 ["found", "due"] []
  m15 : mg "_law_same" = some (.ref f15)
  k15 : PySem.W.keepIn K (.ref f15) = true
  u16 : Fun K "_law_read_again" "_law_read_again" (top 31) f16 e16
  g16 : Binds K e16 ["text", "number", "due"] []
  m16 : mg "_law_read_again" = some (.ref f16)
  k16 : PySem.W.keepIn K (.ref f16) = true
  u17 : Fun K "law" "law" (top 32) f17 e17
  g17 : Binds K e17 ["script"] []
  m17 : mg "law" = some (.ref f17)
  k17 : PySem.W.keepIn K (.ref f17) = true
  n0 : PySem.W.nsIn K mainGlobals "WontError" = some (some (.ref c0))
  mc0 : mg "WontError" = some (.ref c0)
  n1 : PySem.W.nsIn K mainGlobals "RowError" = some (some (.ref c1))
  mc1 : mg "RowError" = some (.ref c1)
  n2 : PySem.W.nsIn K mainGlobals "TooLong" = some (some (.ref c2))
  mc2 : mg "TooLong" = some (.ref c2)
  n3 : PySem.W.nsIn K mainGlobals "NoSentence" = some (some (.ref c3))
  mc3 : mg "NoSentence" = some (.ref c3)
  b_isinstance : mg "isinstance" = none
  b_len : mg "len" = none
  b_max : mg "max" = none
  b_range : mg "range" = none
  b_str : mg "str" = none
  b_tuple : mg "tuple" = none
  gc_MOST_SIGNS : GlC K mg "MOST_SIGNS" k_MOST_SIGNS
  gc_PIECES : GlC K mg "PIECES" k_PIECES
  gc_LETTERS : GlC K mg "LETTERS" k_LETTERS
  gc_KEPT_WORDS : GlC K mg "KEPT_WORDS" k_KEPT_WORDS
  gc_MOST_LETTERS : GlC K mg "MOST_LETTERS" k_MOST_LETTERS
  gc_JOINTS : GlC K mg "JOINTS" k_JOINTS
  gt_TIGHTER : GlT K w mg "TIGHTER" t_TIGHTER
  gt_TIGHTNESS : GlT K w mg "TIGHTNESS" t_TIGHTNESS
structure Fns [R0] (Pr : Program) (w : World) (K : PySem.W.Frag) (mg : Str → Option Value) (base : Heap) (k : Nat) (f0 f1 f2 f3 f4 f5 f6 f7 f8 f9 f10 f11 f12 f13 f14 f15 f16 f17 c0 c1 c2 c3 : Addr) (e0 e1 e2 e3 e4 e5 e6 e7 e8 e9 e10 e11 e12 e13 e14 e15 e16 e17 : FuncData) (Γ : Z.Gam) : Prop where
  f0 : FnOk Pr w K mg base CX0 k f0 e0 ["text", "row"] (spUp K Γ 0)
  f1 : FnOk Pr w K mg base CX0 k f1 e1 ["text"] (spUp K Γ 1)
  f2 : FnOk Pr w K mg base CX0 k f2 e2 ["text", "place"] (spUp K Γ 2)
  f3 : FnOk Pr w K mg base CX0 k f3 e3 ["text", "place"] (spUp K Γ 3)
  f4 : FnOk Pr w K mg base CX0 k f4 e4 ["word"] (spUp K Γ 4)
  f5 : FnOk Pr w K mg base CX0 k f5 e5 ["tokens"] (spUp K Γ 5)
  f6 : FnOk Pr w K mg base CX0 k f6 e6 ["begun", "whole", "joints"] (spUp K Γ 6)
  f7 : FnOk Pr w K mg base CX0 k f7 e7 ["sentence"] (spUp K Γ 7)
  f8 : FnOk Pr w K mg base CX0 k f8 e8 ["sentence", "least"] (spUp K Γ 8)
  f9 : FnOk Pr w K mg base CX0 k f9 e9 ["cell", "count"] (spUp K Γ 9)
  f10 : FnOk Pr w K mg base CX0 k f10 e10 ["script", "k"] (spUp K Γ 10)
  f11 : FnOk Pr w K mg base CX0 k f11 e11 ["number", "size"] (spUp K Γ 11)
  f12 : FnOk Pr w K mg base CX0 k f12 e12 ["cell", "size"] (spUp K Γ 12)
  f13 : FnOk Pr w K mg base CX0 k f13 e13 ["tree", "under"] (spUp K Γ 13)
  f14 : FnOk Pr w K mg base CX0 k f14 e14 ["pool", "cell", "names"] (spUp K Γ 14)
  f15 : FnOk Pr w K mg base CX0 k f15 e15 ["found", "due"] (spUp K Γ 15)
  f16 : FnOk Pr w K mg base CX0 k f16 e16 ["text", "number", "due"] (spUp K Γ 16)
  f17 : FnOk Pr w K mg base CX0 k f17 e17 ["script"] (spUp K Γ 17)
seal L2.PE L2.PT L2.PA L2.PS L2.PSs L2.PW L2.PI L2.OpR L2.UnR L2.CallR L2.MtR L2.IxR ZS.PTs L2.Binds
section
variable {Pr : Program} {w : World} {K : PySem.W.Frag} {mg : Str → Option Value} {base : Heap} {k : Nat} {f0 f1 f2 f3 f4 f5 f6 f7 f8 f9 f10 f11 f12 f13 f14 f15 f16 f17 c0 c1 c2 c3 : Addr} {e0 e1 e2 e3 e4 e5 e6 e7 e8 e9 e10 e11 e12 e13 e14 e15 e16 e17 : FuncData}
theorem sc_0 : FnScope ["text", "row", "tokens", "sentence"] ["text", "row"] (defScope (top 14)) := ⟨rfl, rfl, rfl, by decide +kernel, rfl, by decide +kernel, by decide +kernel⟩
theorem sc_1 : FnScope ["text", "tokens", "place", "piece"] ["text"] (defScope (top 15)) := ⟨rfl, rfl, rfl, by decide +kernel, rfl, by decide +kernel, by decide +kernel⟩
theorem sc_2 : FnScope ["text", "place", "piece", "word"] ["text", "place"] (defScope (top 16)) := ⟨rfl, rfl, rfl, by decide +kernel, rfl, by decide +kernel, by decide +kernel⟩
theorem sc_3 : FnScope ["text", "place"] ["text", "place"] (defScope (top 17)) := ⟨rfl, rfl, rfl, by decide +kernel, rfl, by decide +kernel, by decide +kernel⟩
theorem sc_4 : FnScope ["word"] ["word"] (defScope (top 18)) := ⟨rfl, rfl, rfl, by decide +kernel, rfl, by decide +kernel, by decide +kernel⟩
theorem sc_5 : FnScope ["tokens", "begun", "whole", "token", "stands_behind"] ["tokens"] (defScope (top 19)) := ⟨rfl, rfl, rfl, by decide +kernel, rfl, by decide +kernel, by decide +kernel⟩
theorem sc_6 : FnScope ["begun", "whole", "joints"] ["begun", "whole", "joints"] (defScope (top 20)) := ⟨rfl, rfl, rfl, by decide +kernel, rfl, by decide +kernel, by decide +kernel⟩
theorem sc_7 : FnScope ["sentence"] ["sentence"] (defScope (top 21)) := ⟨rfl, rfl, rfl, by decide +kernel, rfl, by decide +kernel, by decide +kernel⟩
theorem sc_8 : FnScope ["sentence", "least", "kind", "tightness", "text", "left", "right"] ["sentence", "least"] (defScope (top 22)) := ⟨rfl, rfl, rfl, by decide +kernel, rfl, by decide +kernel, by decide +kernel⟩
theorem sc_9 : FnScope ["cell", "count", "number", "drawn", "k"] ["cell", "count"] (defScope (top 24)) := ⟨rfl, rfl, rfl, by decide +kernel, rfl, by decide +kernel, by decide +kernel⟩
theorem sc_10 : FnScope ["script", "k"] ["script", "k"] (defScope (top 25)) := ⟨rfl, rfl, rfl, by decide +kernel, rfl, by decide +kernel, by decide +kernel⟩
theorem sc_11 : FnScope ["number", "size", "letters", "name", "k"] ["number", "size"] (defScope (top 26)) := ⟨rfl, rfl, rfl, by decide +kernel, rfl, by decide +kernel, by decide +kernel⟩
theorem sc_12 : FnScope ["cell", "size", "letters", "some", "drawn", "base", "at", "names", "k", "name", "sign"] ["cell", "size"] (defScope (top 27)) := ⟨rfl, rfl, rfl, by decide +kernel, rfl, by decide +kernel, by decide +kernel⟩
theorem sc_13 : FnScope ["tree", "under", "level", "word", "text"] ["tree", "under"] (defScope (top 28)) := ⟨rfl, rfl, rfl, by decide +kernel, rfl, by decide +kernel, by decide +kernel⟩
theorem sc_14 : FnScope ["pool", "cell", "names", "drawn", "one", "other", "kind"] ["pool", "cell", "names"] (defScope (top 29)) := ⟨rfl, rfl, rfl, by decide +kernel, rfl, by decide +kernel, by decide +kernel⟩
theorem sc_15 : FnScope ["found", "due", "k"] ["found", "due"] (defScope (top 30)) := ⟨rfl, rfl, rfl, by decide +kernel, rfl, by decide +kernel, by decide +kernel⟩
theorem sc_16 : FnScope ["text", "number", "due", "found"] ["text", "number", "due"] (defScope (top 31)) := ⟨rfl, rfl, rfl, by decide +kernel, rfl, by decide +kernel, by decide +kernel⟩
theorem sc_17 : FnScope ["script", "names", "pool", "cell", "new", "text", "shown"] ["script"] (defScope (top 32)) := ⟨rfl, rfl, rfl, by decide +kernel, rfl, by decide +kernel, by decide +kernel⟩
section
variable [r0 : R0] (T : Txt K w mg f0 f1 f2 f3 f4 f5 f6 f7 f8 f9 f10 f11 f12 f13 f14 f15 f16 f17 c0 c1 c2 c3 e0 e1 e2 e3 e4 e5 e6 e7 e8 e9 e10 e11 e12 e13 e14 e15 e16 e17) (FA : ∀ r : R0, @Fns r Pr w K mg base k f0 f1 f2 f3 f4 f5 f6 f7 f8 f9 f10 f11 f12 f13 f14 f15 f16 f17 c0 c1 c2 c3 e0 e1 e2 e3 e4 e5 e6 e7 e8 e9 e10 e11 e12 e13 e14 e15 e16 e17 (Z.wpCall sb P k))
include T FA
theorem d_0 : FnOk Pr w K mg base CX0 (k + 1) f0 e0 ["text", "row"] (spUp K (Z.wpCall sb P (k + 1)) 0) :=
  have F := FA r0
  def_okG T.u0 sc_0 rfl rfl rfl fun cdv A outer s H E E' hr =>
    (lss_cons (ls_if (lt_cmp (isB_cmp rfl) o_gt (zcallB c_len T.b_len bt_len (zargs (zv 0) la_nil)) (zgc T.gc_MOST_SIGNS) rfl)
    (lss_cons ls_rais
    lss_nil)
    lss_nil)
    (lss_cons (zasg 2 sc_0.nd (zcall hr F.f1 T.m1 T.k1 T.g1 (zargs (zv 0) la_nil)))
    (lss_cons (zasg 3 sc_0.nd (le_ite (lt_none (isB_N rfl) o_isN (zv 2) rfl) zn (zcall hr F.f5 T.m5 T.k5 T.g5 (zargs (zv 2) la_nil))))
    (lss_cons (ls_if (lt_none (isB_N rfl) o_isN (zv 3) rfl)
    (lss_cons ls_rais
    lss_nil)
    lss_nil)
    (lss_cons (ls_ret (zv 3))
    lss_nil)))))
theorem d_1 : FnOk Pr w K mg base CX0 (k + 1) f1 e1 ["text"] (spUp K (Z.wpCall sb P (k + 1)) 1) :=
  have F := FA r0
  def_ok T.u1 sc_1 rfl rfl rfl fun cdv A outer s H E E' hr =>
    (lss_cons (zasg 1 sc_1.nd (le_list la_nil))
    (lss_cons (zasg 2 sc_1.nd zi)
    (lss_cons (ls_while PassesOwn.never (lt_cmp (isB_cmp rfl) o_lt (zv 2) (zcallB c_len T.b_len bt_len (zargs (zv 0) la_nil)) rfl)
    (lss_cons (zasg 3 sc_1.nd (zcall hr F.f2 T.m2 T.k2 T.g2 (zargs (zv 0) (zargs (zv 2) la_nil))))
    (lss_cons (ls_if (lt_none (isB_N rfl) o_isN (zv 3) rfl)
    (lss_cons (ls_ret zn)
    lss_nil)
    lss_nil)
    (lss_cons (zexpr (zmth (m := .list) PySem.F.plainAttrs_list PySem.F.slot_list_append PySem.F.type_list_append m_append (zv 1) (zargs (zmth (m := .str) PySem.F.plainAttrs_str PySem.F.slot_str_strip PySem.F.type_str_strip m_strip (zv 3) (zargs (zs (by decide +kernel) (by decide +kernel)) la_nil)) la_nil)))
    (lss_cons (zaug 2 sc_1.nd (zcallB c_len T.b_len bt_len (zargs (zv 3) la_nil)))
    lss_nil)))))
    (lss_cons (ls_ret (zv 1))
    lss_nil))))
theorem d_2 : FnOk Pr w K mg base CX0 (k + 1) f2 e2 ["text", "place"] (spUp K (Z.wpCall sb P (k + 1)) 2) :=
  have F := FA r0
  def_ok T.u2 sc_2 rfl rfl rfl fun cdv A outer s H E E' hr =>
    (lss_cons (zfor 2 PassesOwn.never rfl sc_2.nd (li_val (zgc T.gc_PIECES))
    (lss_cons (ls_if (ztru (zmth (m := .str) PySem.F.plainAttrs_str PySem.F.slot_str_startswith PySem.F.type_str_startswith m_starts3 (zv 0) (zargs (zv 2) (zargs (zv 1) la_nil))))
    (lss_cons (ls_ret (zv 2))
    lss_nil)
    lss_nil)
    lss_nil))
    (lss_cons (zasg 3 sc_2.nd (le_slLH (zv 0) (zv 1) (zcall hr F.f3 T.m3 T.k3 T.g3 (zargs (zv 0) (zargs (zv 1) la_nil)))))
    (lss_cons (ls_ret (le_ite (ztru (zcall hr F.f4 T.m4 T.k4 T.g4 (zargs (zv 3) la_nil))) (zv 3) zn))
    lss_nil)))
theorem d_3 : FnOk Pr w K mg base CX0 (k + 1) f3 e3 ["text", "place"] (spUp K (Z.wpCall sb P (k + 1)) 3) :=
  have F := FA r0
  def_ok T.u3 sc_3 rfl rfl rfl fun cdv A outer s H E E' hr =>
    (lss_cons (ls_while PassesOwn.never (PW.pt (lw_and (lt_cmp (isB_cmp rfl) o_lt (zv 1) (zcallB c_len T.b_len bt_len (zargs (zv 0) la_nil)) rfl) (lw_and1 (lt_cmp (isB_inS (.inl rfl)) o_inS (zix hr (zv 0) (zv 1)) (zgc T.gc_LETTERS) rfl))))
    (lss_cons (zaug 1 sc_3.nd zi)
    lss_nil))
    (lss_cons (ls_ret (zv 1))
    lss_nil))
theorem d_4 : FnOk Pr w K mg base CX0 (k + 1) f4 e4 ["word"] (spUp K (Z.wpCall sb P (k + 1)) 4) :=
  have F := FA r0
  def_ok T.u4 sc_4 rfl rfl rfl fun cdv A outer s H E E' hr =>
    (lss_cons (ls_ret (le_and (le_chain o_le o_le zi (zcallB c_len T.b_len bt_len (zargs (zv 0) la_nil)) (zgc T.gc_MOST_LETTERS) rfl) (le_one (le_cmp (o_notin (zu hr)) (zv 0) (zgc T.gc_KEPT_WORDS) rfl))))
    lss_nil)
theorem d_5 : FnOk Pr w K mg base CX0 (k + 1) f5 e5 ["tokens"] (spUp K (Z.wpCall sb P (k + 1)) 5) :=
  have F := FA r0
  def_ok T.u5 sc_5 rfl rfl rfl fun cdv A outer s H E E' hr =>
    (lss_cons (zasg 1 sc_5.nd (le_list la_nil))
    (lss_cons (zasg 2 sc_5.nd zn)
    (lss_cons (zfor 3 PassesOwn.never rfl sc_5.nd (li_val (zv 0))
    (lss_cons (zasg 4 sc_5.nd (zgin T.gt_TIGHTER (zv 3)))
    (lss_cons (ls_if (lt_cmp (isB_eq rfl) (o_eq (zu hr)) (zv 4) (le_none o_isN (zv 2) rfl) rfl)
    (lss_cons (ls_ret zn)
    lss_nil)
    lss_nil)
    (lss_cons (ls_if (ztru (zv 4))
    (lss_cons (zasg 2 sc_5.nd (zcall hr F.f6 T.m6 T.k6 T.g6 (zargs (zv 1) (zargs (zv 2) (zargs (zgget T.gt_TIGHTER (zv 3)) la_nil)))))
    lss_nil)
    lss_nil)
    (lss_cons (ls_if (lt_cmp (isB_eq rfl) (o_eq (zu hr)) (zv 3) (zs (by decide +kernel) (by decide +kernel)) rfl)
    (lss_cons (ls_if (lt_not (ztru (zv 1)))
    (lss_cons (ls_ret zn)
    lss_nil)
    lss_nil)
    (lss_cons (zexpr (zmth0 (m := .list) PySem.F.plainAttrs_list PySem.F.slot_list_pop PySem.F.type_list_pop m_pop (zv 1)))
    lss_nil))
    (lss_cons (ls_if (ztru (zv 4))
    (lss_cons (zexpr (zmth (m := .list) PySem.F.plainAttrs_list PySem.F.slot_list_append PySem.F.type_list_append m_append (zv 1) (zargs (le_tup (zargs (zv 3) (zargs (zv 2) la_nil))) la_nil)))
    (lss_cons (zasg 2 sc_5.nd zn)
    lss_nil))
    (lss_cons (ls_if (PW.pt (lw_or (lt_cmp (isB_eq rfl) (o_eq (zu hr)) (zv 3) (zs (by decide +kernel) (by decide +kernel)) rfl) (lw_or1 (lt_cmp (isB_eq rfl) (o_eq (zu hr)) (zv 3) (zs (by decide +kernel) (by decide +kernel)) rfl))))
    (lss_cons (zexpr (zmth (m := .list) PySem.F.plainAttrs_list PySem.F.slot_list_append PySem.F.type_list_append m_append (zv 1) (zargs (le_tup (zargs (zv 3) la_nil)) la_nil)))
    lss_nil)
    (lss_cons (zasg 2 sc_5.nd (le_tup (zargs (zs (by decide +kernel) (by decide +kernel)) (zargs (zv 3) la_nil))))
    lss_nil))
    lss_nil))
    lss_nil))
    lss_nil)))))
    (lss_cons (ls_if (lt_none (isB_N rfl) o_isN (zv 2) rfl)
    (lss_cons (ls_ret zn)
    lss_nil)
    lss_nil)
    (lss_cons (zasg 2 sc_5.nd (zcall hr F.f6 T.m6 T.k6 T.g6 (zargs (zv 1) (zargs (zv 2) (zargs (zgc T.gc_JOINTS) la_nil)))))
    (lss_cons (ls_ret (le_ite (ztru (zv 1)) zn (zv 2)))
    lss_nil))))))
theorem d_6 : FnOk Pr w K mg base CX0 (k + 1) f6 e6 ["begun", "whole", "joints"] (spUp K (Z.wpCall sb P (k + 1)) 6) :=
  have F := FA r0
  def_ok T.u6 sc_6 rfl rfl rfl fun cdv A outer s H E E' hr =>
    (lss_cons (ls_while PassesOwn.never (PW.pt (lw_and (ztru (zv 0)) (lw_and1 (lt_cmp (isB_in rfl) (o_in (zu hr)) (zix hr (zix hr (zv 0) (le_un u_neg zi)) zi) (zv 2) rfl))))
    (lss_cons (zasg 1 sc_6.nd (le_bin o_add (zmth0 (m := .list) PySem.F.plainAttrs_list PySem.F.slot_list_pop PySem.F.type_list_pop m_pop (zv 0)) (le_tup (zargs (zv 1) la_nil))))
    lss_nil))
    (lss_cons (ls_ret (zv 1))
    lss_nil))
theorem d_7 : FnOk Pr w K mg base CX0 (k + 1) f7 e7 ["sentence"] (spUp K (Z.wpCall sb P (k + 1)) 7) :=
  have F := FA r0
  def_ok T.u7 sc_7 rfl rfl rfl fun cdv A outer s H E E' hr =>
    (lss_cons (ls_ret (zcall hr F.f8 T.m8 T.k8 T.g8 (zargs (zv 0) (zargs zi la_nil))))
    lss_nil)
theorem d_8 : FnOk Pr w K mg base CX0 (k + 1) f8 e8 ["sentence", "least"] (spUp K (Z.wpCall sb P (k + 1)) 8) :=
  have F := FA r0
  def_ok T.u8 sc_8 rfl rfl rfl fun cdv A outer s H E E' hr =>
    (lss_cons (zasg 2 sc_8.nd (zix hr (zv 0) zi))
    (lss_cons (zasg 3 sc_8.nd (zgget T.gt_TIGHTNESS (zv 2)))
    (lss_cons (ls_if (lt_cmp (isB_eq rfl) (o_eq (zu hr)) (zv 2) (zs (by decide +kernel) (by decide +kernel)) rfl)
    (lss_cons (zasg 4 sc_8.nd (zix hr (zv 0) zi))
    lss_nil)
    (lss_cons (ls_if (lt_cmp (isB_eq rfl) (o_eq (zu hr)) (zv 2) (zs (by decide +kernel) (by decide +kernel)) rfl)
    (lss_cons (zasg 4 sc_8.nd (le_bin o_add (zs (by decide +kernel) (by decide +kernel)) (zcall hr F.f8 T.m8 T.k8 T.g8 (zargs (zix hr (zv 0) zi) (zargs (zv 3) la_nil)))))
    lss_nil)
    (lss_cons (zasg 5 sc_8.nd (zcall hr F.f8 T.m8 T.k8 T.g8 (zargs (zix hr (zv 0) zi) (zargs (zv 3) la_nil))))
    (lss_cons (zasg 6 sc_8.nd (zcall hr F.f8 T.m8 T.k8 T.g8 (zargs (zix hr (zv 0) zi) (zargs (le_bin o_add (zv 3) zi) la_nil))))
    (lss_cons (zasg 4 sc_8.nd (zfs (es := [(.var 5), (.lit (.str (Z.tx " "))), (.var 2), (.lit (.str (Z.tx " "))), (.var 6)]) (.cons (lf_f (zv 5)) (.cons (lf_c (zs (by decide +kernel) (by decide +kernel))) (.cons (lf_f (zv 2)) (.cons (lf_c (zs (by decide +kernel) (by decide +kernel))) (.cons (lf_f (zv 6)) .nil)))))))
    lss_nil))))
    lss_nil))
    (lss_cons (ls_ret (le_ite (lt_cmp (isB_cmp rfl) o_ge (zv 3) (zv 1) rfl) (zv 4) (zfs (es := [(.lit (.str (Z.tx "("))), (.var 4), (.lit (.str (Z.tx ")")))]) (.cons (lf_c (zs (by decide +kernel) (by decide +kernel))) (.cons (lf_f (zv 4)) (.cons (lf_c (zs (by decide +kernel) (by decide +kernel))) .nil))))))
    lss_nil))))
theorem d_9 : FnOk Pr w K mg base CX0 (k + 1) f9 e9 ["cell", "count"] (spUp K (Z.wpCall sb P (k + 1)) 9) :=
  have F := FA r0
  def_ok T.u9 sc_9 rfl rfl rfl fun cdv A outer s H E E' hr =>
    (lss_cons (zasg 2 sc_9.nd (le_bin o_mod (le_bin o_mul (le_bin o_add (le_bin o_mod (zv 0) zi) zi) zi) zi))
    (lss_cons (zasg 3 sc_9.nd (le_list la_nil))
    (lss_cons (zfor 4 PassesOwn.never rfl sc_9.nd (li_rng1 rfl T.b_range (zargs (zv 1) la_nil) rfl)
    (lss_cons (zasg 2 sc_9.nd (le_bin o_mod (le_bin o_mul (zv 2) zi) zi))
    (lss_cons (zexpr (zmth (m := .list) PySem.F.plainAttrs_list PySem.F.slot_list_append PySem.F.type_list_append m_append (zv 3) (zargs (le_bin o_fdiv (zv 2) zi) la_nil)))
    lss_nil)))
    (lss_cons (ls_ret (zv 3))
    lss_nil))))
theorem d_10 : FnOk Pr w K mg base CX0 (k + 1) f10 e10 ["script", "k"] (spUp K (Z.wpCall sb P (k + 1)) 10) :=
  have F := FA r0
  def_ok T.u10 sc_10 rfl rfl rfl fun cdv A outer s H E E' hr =>
    (lss_cons (ls_if (lt_cmp (isB_cmp rfl) o_lt (zv 1) (zcallB c_len T.b_len bt_len (zargs (zv 0) la_nil)) rfl)
    (lss_cons (ls_ret (zix hr (zv 0) (zv 1)))
    lss_nil)
    lss_nil)
    (lss_cons (ls_ret zi)
    lss_nil))
theorem d_11 : FnOk Pr w K mg base CX0 (k + 1) f11 e11 ["number", "size"] (spUp K (Z.wpCall sb P (k + 1)) 11) :=
  have F := FA r0
  def_ok T.u11 sc_11 rfl rfl rfl fun cdv A outer s H E E' hr =>
    (lss_cons (zasg 2 sc_11.nd (zs (by decide +kernel) (by decide +kernel)))
    (lss_cons (zasg 3 sc_11.nd (zs (by decide +kernel) (by decide +kernel)))
    (lss_cons (zfor 4 PassesOwn.never rfl sc_11.nd (li_rng1 rfl T.b_range (zargs (zv 1) la_nil) rfl)
    (lss_cons (zasg 0 sc_11.nd (le_bin o_mod (le_bin o_add (le_bin o_mul (zv 0) zi) zi) zi))
    (lss_cons (zasg 3 sc_11.nd (le_bin o_add (zv 3) (zix hr (zv 2) (le_bin o_mod (le_bin o_fdiv (zv 0) zi) zi))))
    lss_nil)))
    (lss_cons (ls_ret (zv 3))
    lss_nil))))
theorem d_12 : FnOk Pr w K mg base CX0 (k + 1) f12 e12 ["cell", "size"] (spUp K (Z.wpCall sb P (k + 1)) 12) :=
  have F := FA r0
  def_ok T.u12 sc_12 rfl rfl rfl fun cdv A outer s H E E' hr =>
    (lss_cons (zasg 2 sc_12.nd (zs (by decide +kernel) (by decide +kernel)))
    (lss_cons (zasg 3 sc_12.nd (le_list (zargs (zs (by decide +kernel) (by decide +kernel)) (zargs (zs (by decide +kernel) (by decide +kernel)) (zargs (zs (by decide +kernel) (by decide +kernel)) (zargs (zs (by decide +kernel) (by decide +kernel)) (zargs (zs (by decide +kernel) (by decide +kernel)) (zargs (zs (by decide +kernel) (by decide +kernel)) (zargs (zs (by decide +kernel) (by decide +kernel)) (zargs (zs (by decide +kernel) (by decide +kernel)) (zargs (zs (by decide +kernel) (by decide +kernel)) (zargs (zs (by decide +kernel) (by decide +kernel)) (zargs (zs (by decide +kernel) (by decide +kernel)) (zargs (zs (by decide +kernel) (by decide +kernel)) (zargs (zs (by decide +kernel) (by decide +kernel)) (zargs (zs (by decide +kernel) (by decide +kernel)) la_nil))))))))))))))))
    (lss_cons (zasg 3 sc_12.nd (le_bin o_add (zv 3) (le_list (zargs (zs (by decide +kernel) (by decide +kernel)) (zargs (zs (by decide +kernel) (by decide +kernel)) la_nil)))))
    (lss_cons (zasg 4 sc_12.nd (zcall hr F.f9 T.m9 T.k9 T.g9 (zargs (zv 0) (zargs zi la_nil))))
    (lss_cons (zasg 5 sc_12.nd (zcall hr F.f11 T.m11 T.k11 T.g11 (zargs (zix hr (zv 4) zi) (zargs (le_bin o_add zi (le_bin o_mod (zix hr (zv 4) zi) zi)) la_nil))))
    (lss_cons (zasg 6 sc_12.nd (le_bin o_mod (zix hr (zv 4) zi) (zcallB c_len T.b_len bt_len (zargs (zv 5) la_nil))))
    (lss_cons (zasg 7 sc_12.nd (le_list la_nil))
    (lss_cons (zfor 8 PassesOwn.never rfl sc_12.nd (li_rng1 rfl T.b_range (zargs (zv 1) la_nil) rfl)
    (lss_cons (zasg 9 sc_12.nd (zcall hr F.f11 T.m11 T.k11 T.g11 (zargs (zix hr (zv 4) (le_bin o_add zi (zv 8))) (zargs (le_bin o_add zi (le_bin o_mod (le_bin o_fdiv (zix hr (zv 4) (le_bin o_add zi (zv 8))) zi) zi)) la_nil))))
    (lss_cons (ls_if (lt_cmp (isB_cmp rfl) o_lt (le_bin o_mod (zix hr (zv 4) zi) zi) zi rfl)
    (lss_cons (zasg 10 sc_12.nd (zix hr (zv 2) (le_bin o_mod (le_bin o_add (zix hr (zv 4) zi) (le_bin o_mul (zv 8) (zix hr (le_list (zargs zi (zargs zi (zargs zi (zargs zi (zargs zi (zargs zi la_nil))))))) (le_bin o_mod (zix hr (zv 4) zi) zi)))) zi)))
    (lss_cons (zasg 9 sc_12.nd (le_bin o_add (le_bin o_add (le_slH (zv 5) (zv 6)) (zv 10)) (le_slL (zv 5) (le_bin o_add (zv 6) zi))))
    lss_nil))
    lss_nil)
    (lss_cons (ls_if (lt_cmp (isB_eq rfl) (o_eq (zu hr)) (le_bin o_mod (zix hr (zv 4) zi) zi) zi rfl)
    (lss_cons (zasg 9 sc_12.nd (zix hr (zv 3) (le_bin o_mod (le_bin o_add (zix hr (zv 4) zi) (le_bin o_mul zi (zv 8))) zi)))
    lss_nil)
    lss_nil)
    (lss_cons (ls_if (lt_cmp (isB_in rfl) (o_in (zu hr)) (zv 9) (le_tup (zargs (zs (by decide +kernel) (by decide +kernel)) (zargs (zs (by decide +kernel) (by decide +kernel)) (zargs (zs (by decide +kernel) (by decide +kernel)) (zargs (zs (by decide +kernel) (by decide +kernel)) (zargs (zs (by decide +kernel) (by decide +kernel)) (zargs (zs (by decide +kernel) (by decide +kernel)) la_nil))))))) rfl)
    (lss_cons (zasg 9 sc_12.nd (le_bin o_add (zv 9) (zs (by decide +kernel) (by decide +kernel))))
    lss_nil)
    lss_nil)
    (lss_cons (ls_if (lt_cmp (isB_in rfl) (o_notin (zu hr)) (zv 9) (zv 7) rfl)
    (lss_cons (zexpr (zmth (m := .list) PySem.F.plainAttrs_list PySem.F.slot_list_append PySem.F.type_list_append m_append (zv 7) (zargs (zv 9) la_nil)))
    lss_nil)
    lss_nil)
    lss_nil))))))
    (lss_cons (ls_ret (zv 7))
    lss_nil)))))))))
theorem d_13 : FnOk Pr w K mg base CX0 (k + 1) f13 e13 ["tree", "under"] (spUp K (Z.wpCall sb P (k + 1)) 13) :=
  have F := FA r0
  def_ok T.u13 sc_13 rfl rfl rfl fun cdv A outer s H E E' hr =>
    (lss_cons (ls_if (lt_cmp (isB_eq rfl) (o_eq (zu hr)) (zix hr (zv 0) zi) (zs (by decide +kernel) (by decide +kernel)) rfl)
    (lss_cons (ls_ret (zix hr (zv 0) zi))
    lss_nil)
    lss_nil)
    (lss_cons (ls_if (lt_cmp (isB_eq rfl) (o_eq (zu hr)) (zix hr (zv 0) zi) (zs (by decide +kernel) (by decide +kernel)) rfl)
    (lss_cons (ls_ret (le_bin o_add (zs (by decide +kernel) (by decide +kernel)) (zcall hr F.f13 T.m13 T.k13 T.g13 (zargs (zix hr (zv 0) zi) (zargs zi la_nil)))))
    lss_nil)
    lss_nil)
    (lss_cons (zasg 2 sc_13.nd zi)
    (lss_cons (zasg 3 sc_13.nd (zs (by decide +kernel) (by decide +kernel)))
    (lss_cons (ls_if (lt_cmp (isB_eq rfl) (o_eq (zu hr)) (zix hr (zv 0) zi) (zs (by decide +kernel) (by decide +kernel)) rfl)
    (lss_cons (zasg 2 sc_13.nd zi)
    (lss_cons (zasg 3 sc_13.nd (zs (by decide +kernel) (by decide +kernel)))
    lss_nil))
    lss_nil)
    (lss_cons (zasg 4 sc_13.nd (le_bin o_add (le_bin o_add (zcall hr F.f13 T.m13 T.k13 T.g13 (zargs (zix hr (zv 0) zi) (zargs (zv 2) la_nil))) (zv 3)) (zcall hr F.f13 T.m13 T.k13 T.g13 (zargs (zix hr (zv 0) zi) (zargs (le_bin o_add (zv 2) zi) la_nil)))))
    (lss_cons (ls_if (lt_cmp (isB_cmp rfl) o_lt (zv 2) (zv 1) rfl)
    (lss_cons (ls_ret (le_bin o_add (le_bin o_add (zs (by decide +kernel) (by decide +kernel)) (zv 4)) (zs (by decide +kernel) (by decide +kernel))))
    lss_nil)
    lss_nil)
    (lss_cons (ls_ret (zv 4))
    lss_nil))))))))
theorem d_14 : FnOk Pr w K mg base CX0 (k + 1) f14 e14 ["pool", "cell", "names"] (spUp K (Z.wpCall sb P (k + 1)) 14) :=
  have F := FA r0
  def_ok T.u14 sc_14 rfl rfl rfl fun cdv A outer s H E E' hr =>
    (lss_cons (zasg 3 sc_14.nd (zcall hr F.f9 T.m9 T.k9 T.g9 (zargs (zv 1) (zargs zi la_nil))))
    (lss_cons (zasg 4 sc_14.nd (zix hr (zv 0) (le_un u_neg zi)))
    (lss_cons (ls_if (lt_cmp (isB_eq rfl) (o_eq (zu hr)) (le_bin o_mod (zix hr (zv 3) zi) zi) zi rfl)
    (lss_cons (zasg 4 sc_14.nd (zix hr (zv 0) (le_bin o_mod (zix hr (zv 3) zi) (zcallB c_len T.b_len bt_len (zargs (zv 0) la_nil)))))
    lss_nil)
    lss_nil)
    (lss_cons (zasg 5 sc_14.nd (le_tup (zargs (le_tup (zargs (zs (by decide +kernel) (by decide +kernel)) (zargs (zix hr (zv 2) (le_bin o_mod (zix hr (zv 3) zi) (zcallB c_len T.b_len bt_len (zargs (zv 2) la_nil)))) la_nil))) (zargs zi (zargs zi la_nil)))))
    (lss_cons (ls_if (lt_cmp (isB_eq rfl) (o_eq (zu hr)) (le_bin o_mod (zix hr (zv 3) zi) zi) zi rfl)
    (lss_cons (zasg 5 sc_14.nd (zix hr (zv 0) (le_bin o_mod (zix hr (zv 3) zi) (zcallB c_len T.b_len bt_len (zargs (zv 0) la_nil)))))
    lss_nil)
    lss_nil)
    (lss_cons (zasg 6 sc_14.nd (zix hr (le_list (zargs (zs (by decide +kernel) (by decide +kernel)) (zargs (zs (by decide +kernel) (by decide +kernel)) (zargs (zs (by decide +kernel) (by decide +kernel)) (zargs (zs (by decide +kernel) (by decide +kernel)) (zargs (zs (by decide +kernel) (by decide +kernel)) (zargs (zs (by decide +kernel) (by decide +kernel)) la_nil))))))) (le_bin o_mod (zix hr (zv 3) zi) zi)))
    (lss_cons (ls_if (lt_cmp (isB_eq rfl) (o_eq (zu hr)) (zv 6) (zs (by decide +kernel) (by decide +kernel)) rfl)
    (lss_cons (ls_ret (zv 5))
    lss_nil)
    lss_nil)
    (lss_cons (ls_if (lt_cmp (isB_eq rfl) (o_eq (zu hr)) (zv 6) (zs (by decide +kernel) (by decide +kernel)) rfl)
    (lss_cons (ls_ret (le_tup (zargs (le_tup (zargs (zs (by decide +kernel) (by decide +kernel)) (zargs (zix hr (zv 4) zi) la_nil))) (zargs (le_bin o_add (zix hr (zv 4) zi) zi) (zargs (le_bin o_add (zix hr (zv 4) zi) zi) la_nil)))))
    lss_nil)
    lss_nil)
    (lss_cons (ls_if (lt_cmp (isB_eq rfl) (o_eq (zu hr)) (le_bin o_mod (le_bin o_fdiv (zix hr (zv 3) zi) zi) zi) zi rfl)
    (lss_cons (zpar 4 5 rfl sc_14.nd (zargs (zv 5) (zargs (zv 4) la_nil)))
    lss_nil)
    lss_nil)
    (lss_cons (ls_ret (le_tup (zargs (le_tup (zargs (zv 6) (zargs (zix hr (zv 4) zi) (zargs (zix hr (zv 5) zi) la_nil)))) (zargs (le_bin o_add (le_bin o_add (zix hr (zv 4) zi) (zix hr (zv 5) zi)) zi) (zargs (le_bin o_add (zcallB (c_max rfl) T.b_max bt_max (zargs (zix hr (zv 4) zi) (zargs (zix hr (zv 5) zi) la_nil))) zi) la_nil)))))
    lss_nil))))))))))
theorem d_15 : FnOk Pr w K mg base CX0 (k + 1) f15 e15 ["found", "due"] (spUp K (Z.wpCall sb P (k + 1)) 15) :=
  have F := FA r0
  def_ok T.u15 sc_15 rfl rfl rfl fun cdv A outer s H E E' hr =>
    (lss_cons (ls_if (ztru (zisi (k := .str) T.b_isinstance T.b_str bt_str (zv 1)))
    (lss_cons (ls_ret (le_and (zisi (k := .str) T.b_isinstance T.b_str bt_str (zv 0)) (le_one (le_cmp (o_eq (zu hr)) (zv 0) (zv 1) rfl))))
    lss_nil)
    lss_nil)
    (lss_cons (ls_if (PW.pt (lw_or (lt_not (ztru (zisi (k := .tuple) T.b_isinstance T.b_tuple bt_tuple (zv 0)))) (lw_or1 (lt_cmp (isB_eq rfl) (o_ne (zu hr)) (zcallB c_len T.b_len bt_len (zargs (zv 0) la_nil)) (zcallB c_len T.b_len bt_len (zargs (zv 1) la_nil)) rfl))))
    (lss_cons (ls_ret zb)
    lss_nil)
    lss_nil)
    (lss_cons (zfor 2 PassesOwn.never rfl sc_15.nd (li_rng1 rfl T.b_range (zargs (zcallB c_len T.b_len bt_len (zargs (zv 1) la_nil)) la_nil) rfl)
    (lss_cons (ls_if (lt_not (ztru (zcall hr F.f15 T.m15 T.k15 T.g15 (zargs (zix hr (zv 0) (zv 2)) (zargs (zix hr (zv 1) (zv 2)) la_nil)))))
    (lss_cons (ls_ret zb)
    lss_nil)
    lss_nil)
    lss_nil))
    (lss_cons (ls_ret zb)
    lss_nil))))
theorem d_16 : FnOk Pr w K mg base CX0 (k + 1) f16 e16 ["text", "number", "due"] (spUp K (Z.wpCall sb P (k + 1)) 16) :=
  have F := FA r0
  def_ok T.u16 sc_16 rfl rfl rfl fun cdv A outer s H E E' hr =>
    (lss_cons (zasg 3 sc_16.nd zn)
    (lss_cons (ls_if (lt_cmp (isB_eq rfl) (o_eq (zu hr)) (le_bin o_mod (zv 1) zi) zi rfl)
    (lss_cons (zasg 3 sc_16.nd (zcallG hr F.f0 T.m0 T.k0 T.gd0 (zargs (zv 0) la_nil)))
    lss_nil)
    (lss_cons (zasg 3 sc_16.nd (zcall hr F.f0 T.m0 T.k0 T.g0 (zargs (zv 0) (zargs (zv 1) la_nil))))
    lss_nil))
    (lss_cons (ls_ret (zcall hr F.f15 T.m15 T.k15 T.g15 (zargs (zv 3) (zargs (zv 2) la_nil))))
    lss_nil)))
theorem d_17 : FnOk Pr w K mg base CX0 (k + 1) f17 e17 ["script"] (spUp K (Z.wpCall sb P (k + 1)) 17) :=
  have F := FA r0
  def_ok T.u17 sc_17 rfl rfl rfl fun cdv A outer s H E E' hr =>
    (lss_cons (zasg 1 sc_17.nd (zcall hr F.f12 T.m12 T.k12 T.g12 (zargs (zcall hr F.f10 T.m10 T.k10 T.g10 (zargs (zv 0) (zargs zi la_nil))) (zargs zi la_nil))))
    (lss_cons (zasg 2 sc_17.nd (le_list (zargs (le_tup (zargs (le_tup (zargs (zs (by decide +kernel) (by decide +kernel)) (zargs (zix hr (zv 1) zi) la_nil))) (zargs zi (zargs zi la_nil)))) la_nil)))
    (lss_cons (zfor 3 PassesOwn.never rfl sc_17.nd (li_val (le_bin o_add (le_list (zargs zi la_nil)) (le_slLH (zv 0) zi zi)))
    (lss_cons (zasg 4 sc_17.nd (zcall hr F.f14 T.m14 T.k14 T.g14 (zargs (zv 2) (zargs (zv 3) (zargs (zv 1) la_nil)))))
    (lss_cons (ls_if (PW.pt (lw_and (lt_cmp (isB_cmp rfl) o_le (zix hr (zv 4) zi) zi rfl) (lw_and1 (lt_cmp (isB_cmp rfl) o_le (zix hr (zv 4) zi) zi rfl))))
    (lss_cons (zexpr (zmth (m := .list) PySem.F.plainAttrs_list PySem.F.slot_list_append PySem.F.type_list_append m_append (zv 2) (zargs (zv 4) la_nil)))
    (lss_cons (zasg 5 sc_17.nd (zcall hr F.f13 T.m13 T.k13 T.g13 (zargs (zix hr (zv 4) zi) (zargs zi la_nil))))
    (lss_cons (zasg 6 sc_17.nd (zcall hr F.f7 T.m7 T.k7 T.g7 (zargs (zix hr (zv 4) zi) la_nil)))
    (lss_cons (ls_if (PW.pt (lw_or (lt_not (ztru (zisi (k := .str) T.b_isinstance T.b_str bt_str (zv 6)))) (lw_or1 (lt_cmp (isB_eq rfl) (o_ne (zu hr)) (zv 6) (zv 5) rfl))))
    (lss_cons (ls_ret zb)
    lss_nil)
    lss_nil)
    (lss_cons (ls_if (PW.pt (lw_and (lt_cmp (isB_cmp rfl) o_le (zcallB c_len T.b_len bt_len (zargs (zv 5) la_nil)) zi rfl) (lw_and1 (lt_not (ztru (zcall hr F.f16 T.m16 T.k16 T.g16 (zargs (zv 5) (zargs (zcallB c_len T.b_len bt_len (zargs (zv 2) la_nil)) (zargs (zix hr (zv 4) zi) la_nil)))))))))
    (lss_cons (ls_ret zb)
    lss_nil)
    lss_nil)
    lss_nil)))))
    lss_nil)
    lss_nil)))
    (lss_cons (ls_ret zb)
    lss_nil))))
end
theorem fns (T : Txt K w mg f0 f1 f2 f3 f4 f5 f6 f7 f8 f9 f10 f11 f12 f13 f14 f15 f16 f17 c0 c1 c2 c3 e0 e1 e2 e3 e4 e5 e6 e7 e8 e9 e10 e11 e12 e13 e14 e15 e16 e17) : ∀ (k : Nat) (r : R0), @Fns r Pr w K mg base k f0 f1 f2 f3 f4 f5 f6 f7 f8 f9 f10 f11 f12 f13 f14 f15 f16 f17 c0 c1 c2 c3 e0 e1 e2 e3 e4 e5 e6 e7 e8 e9 e10 e11 e12 e13 e14 e15 e16 e17 (Z.wpCall sb P k)
  | 0, r => ⟨def_no, def_no, def_no, def_no, def_no, def_no, def_no, def_no, def_no, def_no, def_no, def_no, def_no, def_no, def_no, def_no, def_no, def_no⟩
  | k + 1, r => have FA := fns T k; have F := FA r; ⟨d_0 T FA, d_1 T FA, d_2 T FA, d_3 T FA, d_4 T FA, d_5 T FA, d_6 T FA, d_7 T FA, d_8 T FA, d_9 T FA, d_10 T FA, d_11 T FA, d_12 T FA, d_13 T FA, d_14 T FA, d_15 T FA, d_16 T FA, d_17 T FA⟩
end
theorem all_mk {l : PySem.W.OpenLaw} {w : World} {K : PySem.W.Frag} {h : Heap} {mg : Str → Option Value} {fa f0 f1 f2 f3 f4 f5 f6 f7 f8 f9 f10 f11 f12 f13 f14 f15 f16 f17 c0 c1 c2 c3 : Addr} (X : K.In h) (G : h.Ns mainGlobals mg) (hfa : mg "law" = some (.ref fa))
    {od0 an0 od1 an1 od2 an2 od3 an3 od4 an4 od5 an5 od6 an6 od7 an7 od8 an8 od9 an9 od10 an10 od11 an11 od12 an12 od13 an13 od14 an14 od15 an15 od16 an16 od17 an17 : Option Addr} {sl0 sl1 sl2 sl3 sl4 sl5 sl6 sl7 sl8 sl9 sl10 sl11 sl12 sl13 sl14 sl15 sl16 sl17 : Array (Option Value)} {oc0 kV0 dc0 pm0 cd0 ct0 oc1 kV1 dc1 pm1 cd1 ct1 oc2 kV2 dc2 pm2 cd2 ct2 oc3 kV3 dc3 pm3 cd3 ct3 oc4 kV4 dc4 pm4 cd4 ct4 oc5 kV5 dc5 pm5 cd5 ct5 oc6 kV6 dc6 pm6 cd6 ct6 oc7 kV7 dc7 pm7 cd7 ct7 oc8 kV8 dc8 pm8 cd8 ct8 oc9 kV9 dc9 pm9 cd9 ct9 oc10 kV10 dc10 pm10 cd10 ct10 oc11 kV11 dc11 pm11 cd11 ct11 oc12 kV12 dc12 pm12 cd12 ct12 oc13 kV13 dc13 pm13 cd13 ct13 oc14 kV14 dc14 pm14 cd14 ct14 oc15 kV15 dc15 pm15 cd15 ct15 oc16 kV16 dc16 pm16 cd16 ct16 oc17 kV17 dc17 pm17 cd17 ct17 : Value}
    {gk_MOST_SIGNS : Tok}
    {ga_PIECES : Addr} {gn_PIECES : Nat} {gs_PIECES : Array (Option Value)}
    {gk_PIECES_0 : Tok}
    {gk_PIECES_1 : Tok}
    {gk_PIECES_2 : Tok}
    {gk_PIECES_3 : Tok}
    {gk_PIECES_4 : Tok}
    {gk_LETTERS : Tok}
    {ga_KEPT_WORDS : Addr} {gn_KEPT_WORDS : Nat} {gs_KEPT_WORDS : Array (Option Value)}
    {gk_KEPT_WORDS_0 : Tok}
    {gk_KEPT_WORDS_1 : Tok}
    {gk_KEPT_WORDS_2 : Tok}
    {gk_KEPT_WORDS_3 : Tok}
    {gk_KEPT_WORDS_4 : Tok}
    {gk_KEPT_WORDS_5 : Tok}
    {gk_MOST_LETTERS : Tok}
    {ga_JOINTS : Addr} {gn_JOINTS : Nat} {gs_JOINTS : Array (Option Value)}
    {gk_JOINTS_0 : Tok}
    {gk_JOINTS_1 : Tok}
    {gk_JOINTS_2 : Tok}
    {ga_TIGHTER : Addr} {gn_TIGHTER : Nat}
    {ga_TIGHTER_0 : Addr} {gn_TIGHTER_0 : Nat} {gs_TIGHTER_0 : Array (Option Value)}
    {gk_TIGHTER_0_0 : Tok}
    {gk_TIGHTER_0_1 : Tok}
    {ga_TIGHTER_1 : Addr} {gn_TIGHTER_1 : Nat} {gs_TIGHTER_1 : Array (Option Value)}
    {gk_TIGHTER_1_0 : Tok}
    {gk_TIGHTER_1_1 : Tok}
    {gk_TIGHTER_1_2 : Tok}
    {ga_TIGHTER_2 : Addr} {gn_TIGHTER_2 : Nat} {gs_TIGHTER_2 : Array (Option Value)}
    {gk_TIGHTER_2_0 : Tok}
    {gk_TIGHTER_2_1 : Tok}
    {gk_TIGHTER_2_2 : Tok}
    {gk_TIGHTER_k0 : Tok}
    {gk_TIGHTER_k1 : Tok}
    {gk_TIGHTER_k2 : Tok}
    {ga_TIGHTNESS : Addr} {gn_TIGHTNESS : Nat}
    {gk_TIGHTNESS_0 : Tok}
    {gk_TIGHTNESS_1 : Tok}
    {gk_TIGHTNESS_2 : Tok}
    {gk_TIGHTNESS_3 : Tok}
    {gk_TIGHTNESS_k0 : Tok}
    {gk_TIGHTNESS_k1 : Tok}
    {gk_TIGHTNESS_k2 : Tok}
    {gk_TIGHTNESS_k3 : Tok}
    {dT0 : Addr} {do0 : Value} {dd0 : Option Addr} {dk0 : Tok} {dn0 : Nat} {ds0 : Array (Option Value)}
    (gg_MOST_SIGNS : PySem.W.nsIn K mainGlobals "MOST_SIGNS" = some (some (.int 120 gk_MOST_SIGNS)))
    (gg_PIECES : PySem.W.nsIn K mainGlobals "PIECES" = some (some (.ref ga_PIECES)))
    (gl_PIECES : K.lookup ga_PIECES = some ⟨.type "tuple", none, .seq #[(.str "(" gk_PIECES_0), (.str ")" gk_PIECES_1), (.str " and " gk_PIECES_2), (.str " or " gk_PIECES_3), (.str "not " gk_PIECES_4)] gn_PIECES, gs_PIECES⟩)
    (gg_LETTERS : PySem.W.nsIn K mainGlobals "LETTERS" = some (some (.str "abcdefghijklmnopqrstuvwxyz" gk_LETTERS)))
    (gg_KEPT_WORDS : PySem.W.nsIn K mainGlobals "KEPT_WORDS" = some (some (.ref ga_KEPT_WORDS)))
    (gl_KEPT_WORDS : K.lookup ga_KEPT_WORDS = some ⟨.type "tuple", none, .seq #[(.str "always" gk_KEPT_WORDS_0), (.str "where" gk_KEPT_WORDS_1), (.str "usually" gk_KEPT_WORDS_2), (.str "not" gk_KEPT_WORDS_3), (.str "and" gk_KEPT_WORDS_4), (.str "or" gk_KEPT_WORDS_5)] gn_KEPT_WORDS, gs_KEPT_WORDS⟩)
    (gg_MOST_LETTERS : PySem.W.nsIn K mainGlobals "MOST_LETTERS" = some (some (.int 12 gk_MOST_LETTERS)))
    (gg_JOINTS : PySem.W.nsIn K mainGlobals "JOINTS" = some (some (.ref ga_JOINTS)))
    (gl_JOINTS : K.lookup ga_JOINTS = some ⟨.type "tuple", none, .seq #[(.str "not" gk_JOINTS_0), (.str "and" gk_JOINTS_1), (.str "or" gk_JOINTS_2)] gn_JOINTS, gs_JOINTS⟩)
    (gg_TIGHTER : PySem.W.nsIn K mainGlobals "TIGHTER" = some (some (.ref ga_TIGHTER)))
    (gl_TIGHTER : K.lookup ga_TIGHTER = some ⟨.type "dict", none, .dict #[⟨PyData.keyHash w.params "and", .str "and" gk_TIGHTER_k0, (.ref ga_TIGHTER_0)⟩, ⟨PyData.keyHash w.params "or", .str "or" gk_TIGHTER_k1, (.ref ga_TIGHTER_1)⟩, ⟨PyData.keyHash w.params ")", .str ")" gk_TIGHTER_k2, (.ref ga_TIGHTER_2)⟩] gn_TIGHTER, #[]⟩)
    (gl_TIGHTER_0 : K.lookup ga_TIGHTER_0 = some ⟨.type "tuple", none, .seq #[(.str "not" gk_TIGHTER_0_0), (.str "and" gk_TIGHTER_0_1)] gn_TIGHTER_0, gs_TIGHTER_0⟩)
    (gl_TIGHTER_1 : K.lookup ga_TIGHTER_1 = some ⟨.type "tuple", none, .seq #[(.str "not" gk_TIGHTER_1_0), (.str "and" gk_TIGHTER_1_1), (.str "or" gk_TIGHTER_1_2)] gn_TIGHTER_1, gs_TIGHTER_1⟩)
    (gl_TIGHTER_2 : K.lookup ga_TIGHTER_2 = some ⟨.type "tuple", none, .seq #[(.str "not" gk_TIGHTER_2_0), (.str "and" gk_TIGHTER_2_1), (.str "or" gk_TIGHTER_2_2)] gn_TIGHTER_2, gs_TIGHTER_2⟩)
    (gy_TIGHTER : (ga_TIGHTER == sysModules) = false)
    (gg_TIGHTNESS : PySem.W.nsIn K mainGlobals "TIGHTNESS" = some (some (.ref ga_TIGHTNESS)))
    (gl_TIGHTNESS : K.lookup ga_TIGHTNESS = some ⟨.type "dict", none, .dict #[⟨PyData.keyHash w.params "or", .str "or" gk_TIGHTNESS_k0, (.int 0 gk_TIGHTNESS_0)⟩, ⟨PyData.keyHash w.params "and", .str "and" gk_TIGHTNESS_k1, (.int 1 gk_TIGHTNESS_1)⟩, ⟨PyData.keyHash w.params "not", .str "not" gk_TIGHTNESS_k2, (.int 2 gk_TIGHTNESS_2)⟩, ⟨PyData.keyHash w.params "is", .str "is" gk_TIGHTNESS_k3, (.int 3 gk_TIGHTNESS_3)⟩] gn_TIGHTNESS, #[]⟩)
    (gy_TIGHTNESS : (ga_TIGHTNESS == sysModules) = false)
    (n0 : PySem.W.nsIn K mainGlobals "WontError" = some (some (.ref c0)))
    (n1 : PySem.W.nsIn K mainGlobals "RowError" = some (some (.ref c1)))
    (n2 : PySem.W.nsIn K mainGlobals "TooLong" = some (some (.ref c2)))
    (n3 : PySem.W.nsIn K mainGlobals "NoSentence" = some (some (.ref c3)))
    (a0 : PySem.W.nsIn K mainGlobals "read_sentence" = some (some (.ref f0)))
    (l0 : K.lookup f0 = some ⟨oc0, od0, .func (PySem.W.fnOf "read_sentence" "read_sentence" (defArgs (top 14)) (defBody (top 14)) (defScope (top 14)) (.ref dT0) kV0 dc0 pm0 an0 cd0 ct0), sl0⟩)
    (dl0 : K.lookup dT0 = some ⟨do0, dd0, .seq #[.int 0 dk0] dn0, ds0⟩)
    (c0_ : PySem.W.codeIn K cd0 "read_sentence" = true)
    (k0 : PySem.W.keepIn K (.ref f0) = true)
    (a1 : PySem.W.nsIn K mainGlobals "tokens_of" = some (some (.ref f1)))
    (l1 : K.lookup f1 = some ⟨oc1, od1, .func (PySem.W.fnOf "tokens_of" "tokens_of" (defArgs (top 15)) (defBody (top 15)) (defScope (top 15)) .none kV1 dc1 pm1 an1 cd1 ct1), sl1⟩)
    (c1_ : PySem.W.codeIn K cd1 "tokens_of" = true)
    (k1 : PySem.W.keepIn K (.ref f1) = true)
    (a2 : PySem.W.nsIn K mainGlobals "piece_at" = some (some (.ref f2)))
    (l2 : K.lookup f2 = some ⟨oc2, od2, .func (PySem.W.fnOf "piece_at" "piece_at" (defArgs (top 16)) (defBody (top 16)) (defScope (top 16)) .none kV2 dc2 pm2 an2 cd2 ct2), sl2⟩)
    (c2_ : PySem.W.codeIn K cd2 "piece_at" = true)
    (k2 : PySem.W.keepIn K (.ref f2) = true)
    (a3 : PySem.W.nsIn K mainGlobals "word_end" = some (some (.ref f3)))
    (l3 : K.lookup f3 = some ⟨oc3, od3, .func (PySem.W.fnOf "word_end" "word_end" (defArgs (top 17)) (defBody (top 17)) (defScope (top 17)) .none kV3 dc3 pm3 an3 cd3 ct3), sl3⟩)
    (c3_ : PySem.W.codeIn K cd3 "word_end" = true)
    (k3 : PySem.W.keepIn K (.ref f3) = true)
    (a4 : PySem.W.nsIn K mainGlobals "is_name" = some (some (.ref f4)))
    (l4 : K.lookup f4 = some ⟨oc4, od4, .func (PySem.W.fnOf "is_name" "is_name" (defArgs (top 18)) (defBody (top 18)) (defScope (top 18)) .none kV4 dc4 pm4 an4 cd4 ct4), sl4⟩)
    (c4_ : PySem.W.codeIn K cd4 "is_name" = true)
    (k4 : PySem.W.keepIn K (.ref f4) = true)
    (a5 : PySem.W.nsIn K mainGlobals "put_together" = some (some (.ref f5)))
    (l5 : K.lookup f5 = some ⟨oc5, od5, .func (PySem.W.fnOf "put_together" "put_together" (defArgs (top 19)) (defBody (top 19)) (defScope (top 19)) .none kV5 dc5 pm5 an5 cd5 ct5), sl5⟩)
    (c5_ : PySem.W.codeIn K cd5 "put_together" = true)
    (k5 : PySem.W.keepIn K (.ref f5) = true)
    (a6 : PySem.W.nsIn K mainGlobals "ended" = some (some (.ref f6)))
    (l6 : K.lookup f6 = some ⟨oc6, od6, .func (PySem.W.fnOf "ended" "ended" (defArgs (top 20)) (defBody (top 20)) (defScope (top 20)) .none kV6 dc6 pm6 an6 cd6 ct6), sl6⟩)
    (c6_ : PySem.W.codeIn K cd6 "ended" = true)
    (k6 : PySem.W.keepIn K (.ref f6) = true)
    (a7 : PySem.W.nsIn K mainGlobals "shown_sentence" = some (some (.ref f7)))
    (l7 : K.lookup f7 = some ⟨oc7, od7, .func (PySem.W.fnOf "shown_sentence" "shown_sentence" (defArgs (top 21)) (defBody (top 21)) (defScope (top 21)) .none kV7 dc7 pm7 an7 cd7 ct7), sl7⟩)
    (c7_ : PySem.W.codeIn K cd7 "shown_sentence" = true)
    (k7 : PySem.W.keepIn K (.ref f7) = true)
    (a8 : PySem.W.nsIn K mainGlobals "shown_part" = some (some (.ref f8)))
    (l8 : K.lookup f8 = some ⟨oc8, od8, .func (PySem.W.fnOf "shown_part" "shown_part" (defArgs (top 22)) (defBody (top 22)) (defScope (top 22)) .none kV8 dc8 pm8 an8 cd8 ct8), sl8⟩)
    (c8_ : PySem.W.codeIn K cd8 "shown_part" = true)
    (k8 : PySem.W.keepIn K (.ref f8) = true)
    (a9 : PySem.W.nsIn K mainGlobals "_law_draws" = some (some (.ref f9)))
    (l9 : K.lookup f9 = some ⟨oc9, od9, .func (PySem.W.fnOf "_law_draws" "_law_draws" (defArgs (top 24)) (defBody (top 24)) (defScope (top 24)) .none kV9 dc9 pm9 an9 cd9 ct9), sl9⟩)
    (c9_ : PySem.W.codeIn K cd9 "_law_draws" = true)
    (k9 : PySem.W.keepIn K (.ref f9) = true)
    (a10 : PySem.W.nsIn K mainGlobals "_law_cell_at" = some (some (.ref f10)))
    (l10 : K.lookup f10 = some ⟨oc10, od10, .func (PySem.W.fnOf "_law_cell_at" "_law_cell_at" (defArgs (top 25)) (defBody (top 25)) (defScope (top 25)) .none kV10 dc10 pm10 an10 cd10 ct10), sl10⟩)
    (c10_ : PySem.W.codeIn K cd10 "_law_cell_at" = true)
    (k10 : PySem.W.keepIn K (.ref f10) = true)
    (a11 : PySem.W.nsIn K mainGlobals "_law_fresh" = some (some (.ref f11)))
    (l11 : K.lookup f11 = some ⟨oc11, od11, .func (PySem.W.fnOf "_law_fresh" "_law_fresh" (defArgs (top 26)) (defBody (top 26)) (defScope (top 26)) .none kV11 dc11 pm11 an11 cd11 ct11), sl11⟩)
    (c11_ : PySem.W.codeIn K cd11 "_law_fresh" = true)
    (k11 : PySem.W.keepIn K (.ref f11) = true)
    (a12 : PySem.W.nsIn K mainGlobals "_law_names" = some (some (.ref f12)))
    (l12 : K.lookup f12 = some ⟨oc12, od12, .func (PySem.W.fnOf "_law_names" "_law_names" (defArgs (top 27)) (defBody (top 27)) (defScope (top 27)) .none kV12 dc12 pm12 an12 cd12 ct12), sl12⟩)
    (c12_ : PySem.W.codeIn K cd12 "_law_names" = true)
    (k12 : PySem.W.keepIn K (.ref f12) = true)
    (a13 : PySem.W.nsIn K mainGlobals "_law_text" = some (some (.ref f13)))
    (l13 : K.lookup f13 = some ⟨oc13, od13, .func (PySem.W.fnOf "_law_text" "_law_text" (defArgs (top 28)) (defBody (top 28)) (defScope (top 28)) .none kV13 dc13 pm13 an13 cd13 ct13), sl13⟩)
    (c13_ : PySem.W.codeIn K cd13 "_law_text" = true)
    (k13 : PySem.W.keepIn K (.ref f13) = true)
    (a14 : PySem.W.nsIn K mainGlobals "_law_grown" = some (some (.ref f14)))
    (l14 : K.lookup f14 = some ⟨oc14, od14, .func (PySem.W.fnOf "_law_grown" "_law_grown" (defArgs (top 29)) (defBody (top 29)) (defScope (top 29)) .none kV14 dc14 pm14 an14 cd14 ct14), sl14⟩)
    (c14_ : PySem.W.codeIn K cd14 "_law_grown" = true)
    (k14 : PySem.W.keepIn K (.ref f14) = true)
    (a15 : PySem.W.nsIn K mainGlobals "_law_same" = some (some (.ref f15)))
    (l15 : K.lookup f15 = some ⟨oc15, od15, .func (PySem.W.fnOf "_law_same" "_law_same" (defArgs (top 30)) (defBody (top 30)) (defScope (top 30)) .none kV15 dc15 pm15 an15 cd15 ct15), sl15⟩)
    (c15_ : PySem.W.codeIn K cd15 "_law_same" = true)
    (k15 : PySem.W.keepIn K (.ref f15) = true)
    (a16 : PySem.W.nsIn K mainGlobals "_law_read_again" = some (some (.ref f16)))
    (l16 : K.lookup f16 = some ⟨oc16, od16, .func (PySem.W.fnOf "_law_read_again" "_law_read_again" (defArgs (top 31)) (defBody (top 31)) (defScope (top 31)) .none kV16 dc16 pm16 an16 cd16 ct16), sl16⟩)
    (c16_ : PySem.W.codeIn K cd16 "_law_read_again" = true)
    (k16 : PySem.W.keepIn K (.ref f16) = true)
    (a17 : PySem.W.nsIn K mainGlobals "law" = some (some (.ref f17)))
    (l17 : K.lookup f17 = some ⟨oc17, od17, .func (PySem.W.fnOf "law" "law" (defArgs (top 32)) (defBody (top 32)) (defScope (top 32)) .none kV17 dc17 pm17 an17 cd17 ct17), sl17⟩)
    (c17_ : PySem.W.codeIn K cd17 "law" = true)
    (k17 : PySem.W.keepIn K (.ref f17) = true)
    (z_isinstance : PySem.W.nsIn K mainGlobals "isinstance" = some none)
    (z_len : PySem.W.nsIn K mainGlobals "len" = some none)
    (z_max : PySem.W.nsIn K mainGlobals "max" = some none)
    (z_range : PySem.W.nsIn K mainGlobals "range" = some none)
    (z_str : PySem.W.nsIn K mainGlobals "str" = some none)
    (z_tuple : PySem.W.nsIn K mainGlobals "tuple" = some none)
    : ∃ fd : FuncData, (∀ (s : Shared) (v : Value), BindsTo s fd ⟨[v], []⟩ [("script", v)]) ∧ ∀ base : Heap, K.In base → base.Ns mainGlobals mg → FnOk l.prog w K mg base CX0 50 fa fd ["script"] (@spUp R0.nil K (Z.wpCall sb P 50) 17) := by
  letI : R0 := R0.nil
  have e := hfa.symm.trans (PySem.W.mg_of X G a17)
  cases e
  have F0 := fund_mk (st := (top 14)) l0 c0_ k0
  have B0 : Binds K _ ["text", "row"] [] := F0.binds dl0 fun _ _ _ _ _ _ us hl => by2 (show us.length = 2 by simpa using hl) fun _ _ => ⟨_, rfl, rfl⟩
  have D0 : Binds K _ ["text", "row"] [.int 0 dk0] := F0.binds dl0 fun _ _ _ _ _ _ us hl => by1 (show us.length = 1 by simpa using hl) fun _ => ⟨_, rfl, rfl⟩
  have F1 := fun_mk (st := (top 15)) l1 c1_ k1
  have B1 := F1.binds (ps := ["text"]) fun _ _ _ _ _ _ us hl => by1 hl fun _ => rfl
  have F2 := fun_mk (st := (top 16)) l2 c2_ k2
  have B2 := F2.binds (ps := ["text", "place"]) fun _ _ _ _ _ _ us hl => by2 hl fun _ _ => rfl
  have F3 := fun_mk (st := (top 17)) l3 c3_ k3
  have B3 := F3.binds (ps := ["text", "place"]) fun _ _ _ _ _ _ us hl => by2 hl fun _ _ => rfl
  have F4 := fun_mk (st := (top 18)) l4 c4_ k4
  have B4 := F4.binds (ps := ["word"]) fun _ _ _ _ _ _ us hl => by1 hl fun _ => rfl
  have F5 := fun_mk (st := (top 19)) l5 c5_ k5
  have B5 := F5.binds (ps := ["tokens"]) fun _ _ _ _ _ _ us hl => by1 hl fun _ => rfl
  have F6 := fun_mk (st := (top 20)) l6 c6_ k6
  have B6 := F6.binds (ps := ["begun", "whole", "joints"]) fun _ _ _ _ _ _ us hl => by3 hl fun _ _ _ => rfl
  have F7 := fun_mk (st := (top 21)) l7 c7_ k7
  have B7 := F7.binds (ps := ["sentence"]) fun _ _ _ _ _ _ us hl => by1 hl fun _ => rfl
  have F8 := fun_mk (st := (top 22)) l8 c8_ k8
  have B8 := F8.binds (ps := ["sentence", "least"]) fun _ _ _ _ _ _ us hl => by2 hl fun _ _ => rfl
  have F9 := fun_mk (st := (top 24)) l9 c9_ k9
  have B9 := F9.binds (ps := ["cell", "count"]) fun _ _ _ _ _ _ us hl => by2 hl fun _ _ => rfl
  have F10 := fun_mk (st := (top 25)) l10 c10_ k10
  have B10 := F10.binds (ps := ["script", "k"]) fun _ _ _ _ _ _ us hl => by2 hl fun _ _ => rfl
  have F11 := fun_mk (st := (top 26)) l11 c11_ k11
  have B11 := F11.binds (ps := ["number", "size"]) fun _ _ _ _ _ _ us hl => by2 hl fun _ _ => rfl
  have F12 := fun_mk (st := (top 27)) l12 c12_ k12
  have B12 := F12.binds (ps := ["cell", "size"]) fun _ _ _ _ _ _ us hl => by2 hl fun _ _ => rfl
  have F13 := fun_mk (st := (top 28)) l13 c13_ k13
  have B13 := F13.binds (ps := ["tree", "under"]) fun _ _ _ _ _ _ us hl => by2 hl fun _ _ => rfl
  have F14 := fun_mk (st := (top 29)) l14 c14_ k14
  have B14 := F14.binds (ps := ["pool", "cell", "names"]) fun _ _ _ _ _ _ us hl => by3 hl fun _ _ _ => rfl
  have F15 := fun_mk (st := (top 30)) l15 c15_ k15
  have B15 := F15.binds (ps := ["found", "due"]) fun _ _ _ _ _ _ us hl => by2 hl fun _ _ => rfl
  have F16 := fun_mk (st := (top 31)) l16 c16_ k16
  have B16 := F16.binds (ps := ["text", "number", "due"]) fun _ _ _ _ _ _ us hl => by3 hl fun _ _ _ => rfl
  have F17 := fun_mk (st := (top 32)) l17 c17_ k17
  have B17 := F17.binds (ps := ["script"]) fun _ _ _ _ _ _ us hl => by1 hl fun _ => rfl
  refine ⟨PySem.W.fnOf "law" "law" (defArgs (top 32)) (defBody (top 32)) (defScope (top 32)) .none kV17 dc17 pm17 an17 cd17 ct17, fun s v => .of_eq rfl, fun base _ _ => ?_⟩
  exact (fns (Pr := l.prog) (w := w) (base := base) ⟨⟨_, F0⟩, B0, ⟨_, D0, cst_int⟩, PySem.W.mg_of X G a0, k0, F1, B1, PySem.W.mg_of X G a1, k1, F2, B2, PySem.W.mg_of X G a2, k2, F3, B3, PySem.W.mg_of X G a3, k3, F4, B4, PySem.W.mg_of X G a4, k4, F5, B5, PySem.W.mg_of X G a5, k5, F6, B6, PySem.W.mg_of X G a6, k6, F7, B7, PySem.W.mg_of X G a7, k7, F8, B8, PySem.W.mg_of X G a8, k8, F9, B9, PySem.W.mg_of X G a9, k9, F10, B10, PySem.W.mg_of X G a10, k10, F11, B11, PySem.W.mg_of X G a11, k11, F12, B12, PySem.W.mg_of X G a12, k12, F13, B13, PySem.W.mg_of X G a13, k13, F14, B14, PySem.W.mg_of X G a14, k14, F15, B15, PySem.W.mg_of X G a15, k15, F16, B16, PySem.W.mg_of X G a16, k16, F17, B17, PySem.W.mg_of X G a17, k17, n0, PySem.W.mg_of X G n0, n1, PySem.W.mg_of X G n1, n2, PySem.W.mg_of X G n2, n3, PySem.W.mg_of X G n3, PySem.W.mg_none_of X G z_isinstance, PySem.W.mg_none_of X G z_len, PySem.W.mg_none_of X G z_max, PySem.W.mg_none_of X G z_range, PySem.W.mg_none_of X G z_str, PySem.W.mg_none_of X G z_tuple, ⟨_, PySem.W.mg_of X G gg_MOST_SIGNS, cst_int⟩, ⟨_, PySem.W.mg_of X G gg_PIECES, (cst_tup gl_PIECES (Nat.le_of_ble_eq_true rfl) (.cons (cst_str (by decide +kernel) (by decide +kernel)) (.cons (cst_str (by decide +kernel) (by decide +kernel)) (.cons (cst_str (by decide +kernel) (by decide +kernel)) (.cons (cst_str (by decide +kernel) (by decide +kernel)) (.cons (cst_str (by decide +kernel) (by decide +kernel)) .nil))))))⟩, ⟨_, PySem.W.mg_of X G gg_LETTERS, (cst_str (by decide +kernel) (by decide +kernel))⟩, ⟨_, PySem.W.mg_of X G gg_KEPT_WORDS, (cst_tup gl_KEPT_WORDS (Nat.le_of_ble_eq_true rfl) (.cons (cst_str (by decide +kernel) (by decide +kernel)) (.cons (cst_str (by decide +kernel) (by decide +kernel)) (.cons (cst_str (by decide +kernel) (by decide +kernel)) (.cons (cst_str (by decide +kernel) (by decide +kernel)) (.cons (cst_str (by decide +kernel) (by decide +kernel)) (.cons (cst_str (by decide +kernel) (by decide +kernel)) .nil)))))))⟩, ⟨_, PySem.W.mg_of X G gg_MOST_LETTERS, cst_int⟩, ⟨_, PySem.W.mg_of X G gg_JOINTS, (cst_tup gl_JOINTS (Nat.le_of_ble_eq_true rfl) (.cons (cst_str (by decide +kernel) (by decide +kernel)) (.cons (cst_str (by decide +kernel) (by decide +kernel)) (.cons (cst_str (by decide +kernel) (by decide +kernel)) .nil))))⟩, ⟨_, PySem.W.mg_of X G gg_TIGHTER, tab_mk [("and", gk_TIGHTER_k0, (.ref ga_TIGHTER_0)), ("or", gk_TIGHTER_k1, (.ref ga_TIGHTER_1)), (")", gk_TIGHTER_k2, (.ref ga_TIGHTER_2))] gl_TIGHTER rfl gy_TIGHTER (show ([Str.ofString "and", Str.ofString "or", Str.ofString ")"] : List Str).Nodup by decide +kernel) (show ([Str.ofString "and", Str.ofString "or", Str.ofString ")"] : List Str) = (t_TIGHTER.map (fun p => (⟨p.1.toArray⟩ : Str))) by decide +kernel) (.cons (cst_tup gl_TIGHTER_0 (Nat.le_of_ble_eq_true rfl) (.cons (cst_str (by decide +kernel) (by decide +kernel)) (.cons (cst_str (by decide +kernel) (by decide +kernel)) .nil))) (.cons (cst_tup gl_TIGHTER_1 (Nat.le_of_ble_eq_true rfl) (.cons (cst_str (by decide +kernel) (by decide +kernel)) (.cons (cst_str (by decide +kernel) (by decide +kernel)) (.cons (cst_str (by decide +kernel) (by decide +kernel)) .nil)))) (.cons (cst_tup gl_TIGHTER_2 (Nat.le_of_ble_eq_true rfl) (.cons (cst_str (by decide +kernel) (by decide +kernel)) (.cons (cst_str (by decide +kernel) (by decide +kernel)) (.cons (cst_str (by decide +kernel) (by decide +kernel)) .nil)))) .nil)))⟩, ⟨_, PySem.W.mg_of X G gg_TIGHTNESS, tab_mk [("or", gk_TIGHTNESS_k0, (.int 0 gk_TIGHTNESS_0)), ("and", gk_TIGHTNESS_k1, (.int 1 gk_TIGHTNESS_1)), ("not", gk_TIGHTNESS_k2, (.int 2 gk_TIGHTNESS_2)), ("is", gk_TIGHTNESS_k3, (.int 3 gk_TIGHTNESS_3))] gl_TIGHTNESS rfl gy_TIGHTNESS (show ([Str.ofString "or", Str.ofString "and", Str.ofString "not", Str.ofString "is"] : List Str).Nodup by decide +kernel) (show ([Str.ofString "or", Str.ofString "and", Str.ofString "not", Str.ofString "is"] : List Str) = (t_TIGHTNESS.map (fun p => (⟨p.1.toArray⟩ : Str))) by decide +kernel) (.cons cst_int (.cons cst_int (.cons cst_int (.cons cst_int .nil))))⟩⟩ 50 R0.nil).f17
end K01
open PySem PySem.W PyProof.Rows
set_option maxRecDepth 100000 in
set_option maxHeartbeats 0 in
theorem PySem.Challenge.cw_wontbook_k01_a_sentence_holds : PySem.Challenge.rw_wontbook_k01_a_sentence.Holds := by
  w_on; o_law; k_head; (case hw => w_witness2)
  k_fill
  refine ZS.walkZ (l := PySem.Challenge.rw_wontbook_k01_a_sentence) (kk := 50) (i := 17) (sub := K01.sb) (Pg := K01.P) rfl rfl ⟨rfl, by decide, by decide⟩ (fun w h Y => PySem.W.kIn_of Y) (fun ns hl => K01.law_wp ns hl) ?F
  case F =>
    intro w mg fa h KX G hmg
    refine' K01.all_mk KX G hmg ?gg_MOST_SIGNS ?gg_PIECES ?gl_PIECES ?gg_LETTERS ?gg_KEPT_WORDS ?gl_KEPT_WORDS ?gg_MOST_LETTERS ?gg_JOINTS ?gl_JOINTS ?gg_TIGHTER ?gl_TIGHTER ?gl_TIGHTER_0 ?gl_TIGHTER_1 ?gl_TIGHTER_2 ?gy_TIGHTER ?gg_TIGHTNESS ?gl_TIGHTNESS ?gy_TIGHTNESS ?n0 ?n1 ?n2 ?n3 ?a0 ?l0 ?dl0 ?c0_ ?k0 ?a1 ?l1 ?c1_ ?k1 ?a2 ?l2 ?c2_ ?k2 ?a3 ?l3 ?c3_ ?k3 ?a4 ?l4 ?c4_ ?k4 ?a5 ?l5 ?c5_ ?k5 ?a6 ?l6 ?c6_ ?k6 ?a7 ?l7 ?c7_ ?k7 ?a8 ?l8 ?c8_ ?k8 ?a9 ?l9 ?c9_ ?k9 ?a10 ?l10 ?c10_ ?k10 ?a11 ?l11 ?c11_ ?k11 ?a12 ?l12 ?c12_ ?k12 ?a13 ?l13 ?c13_ ?k13 ?a14 ?l14 ?c14_ ?k14 ?a15 ?l15 ?c15_ ?k15 ?a16 ?l16 ?c16_ ?k16 ?a17 ?l17 ?c17_ ?k17 ?z_isinstance ?z_len ?z_max ?z_range ?z_str ?z_tuple
    (case gg_MOST_SIGNS => k_is)
    (case gg_PIECES => k_is)
    (case gl_PIECES => k_is)
    (case gg_LETTERS => k_is)
    (case gg_KEPT_WORDS => k_is)
    (case gl_KEPT_WORDS => k_is)
    (case gg_MOST_LETTERS => k_is)
    (case gg_JOINTS => k_is)
    (case gl_JOINTS => k_is)
    (case gg_TIGHTER => k_is)
    (case gl_TIGHTER => k_is)
    (case gl_TIGHTER_0 => k_is)
    (case gl_TIGHTER_1 => k_is)
    (case gl_TIGHTER_2 => k_is)
    (case gy_TIGHTER => rfl)
    (case gg_TIGHTNESS => k_is)
    (case gl_TIGHTNESS => k_is)
    (case gy_TIGHTNESS => rfl)
    (case n0 => k_is)
    (case n1 => k_is)
    (case n2 => k_is)
    (case n3 => k_is)
    (case a0 => k_is)
    (case l0 => k_is)
    (case dl0 => k_is)
    (case c0_ => k_is)
    (case k0 => k_is)
    (case a1 => k_is)
    (case l1 => k_is)
    (case c1_ => k_is)
    (case k1 => k_is)
    (case a2 => k_is)
    (case l2 => k_is)
    (case c2_ => k_is)
    (case k2 => k_is)
    (case a3 => k_is)
    (case l3 => k_is)
    (case c3_ => k_is)
    (case k3 => k_is)
    (case a4 => k_is)
    (case l4 => k_is)
    (case c4_ => k_is)
    (case k4 => k_is)
    (case a5 => k_is)
    (case l5 => k_is)
    (case c5_ => k_is)
    (case k5 => k_is)
    (case a6 => k_is)
    (case l6 => k_is)
    (case c6_ => k_is)
    (case k6 => k_is)
    (case a7 => k_is)
    (case l7 => k_is)
    (case c7_ => k_is)
    (case k7 => k_is)
    (case a8 => k_is)
    (case l8 => k_is)
    (case c8_ => k_is)
    (case k8 => k_is)
    (case a9 => k_is)
    (case l9 => k_is)
    (case c9_ => k_is)
    (case k9 => k_is)
    (case a10 => k_is)
    (case l10 => k_is)
    (case c10_ => k_is)
    (case k10 => k_is)
    (case a11 => k_is)
    (case l11 => k_is)
    (case c11_ => k_is)
    (case k11 => k_is)
    (case a12 => k_is)
    (case l12 => k_is)
    (case c12_ => k_is)
    (case k12 => k_is)
    (case a13 => k_is)
    (case l13 => k_is)
    (case c13_ => k_is)
    (case k13 => k_is)
    (case a14 => k_is)
    (case l14 => k_is)
    (case c14_ => k_is)
    (case k14 => k_is)
    (case a15 => k_is)
    (case l15 => k_is)
    (case c15_ => k_is)
    (case k15 => k_is)
    (case a16 => k_is)
    (case l16 => k_is)
    (case c16_ => k_is)
    (case k16 => k_is)
    (case a17 => k_is)
    (case l17 => k_is)
    (case c17_ => k_is)
    (case k17 => k_is)
    (case z_isinstance => k_is)
    (case z_len => k_is)
    (case z_max => k_is)
    (case z_range => k_is)
    (case z_str => k_is)
    (case z_tuple => k_is)

