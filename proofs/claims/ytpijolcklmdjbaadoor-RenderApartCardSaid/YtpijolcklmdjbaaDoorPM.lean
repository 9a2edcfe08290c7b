/- What a statement asks for: mathematics. -/
import Derived.Test.YtpijolcklmdjbaaDoorNTake
namespace Go.Proofs.YtpijolcklmdjbaaDoor
open Go.RowKit Go.Lib Go.WideShapes

abbrev w_set : Bs := [115, 101, 116]
abbrev w_reset : Bs := [114, 101, 115, 101, 116]
abbrev w_all : Bs := [97, 108, 108]
abbrev w_discard : Bs := [100, 105, 115, 99, 97, 114, 100]
abbrev w_start : Bs := [115, 116, 97, 114, 116]
abbrev w_transaction : Bs := [116, 114, 97, 110, 115, 97, 99, 116, 105, 111, 110]
abbrev w_begin : Bs := [98, 101, 103, 105, 110]
abbrev w_end : Bs := [101, 110, 100]
abbrev w_commit : Bs := [99, 111, 109, 109, 105, 116]
abbrev w_abort : Bs := [97, 98, 111, 114, 116]
abbrev w_rollback : Bs := [114, 111, 108, 108, 98, 97, 99, 107]
abbrev w_savepoint : Bs := [115, 97, 118, 101, 112, 111, 105, 110, 116]
abbrev w_release : Bs := [114, 101, 108, 101, 97, 115, 101]
abbrev w_show : Bs := [115, 104, 111, 119]
abbrev w_work : Bs := [119, 111, 114, 107]
abbrev w_to : Bs := [116, 111]
abbrev w_local : Bs := [108, 111, 99, 97, 108]
abbrev w_session : Bs := [115, 101, 115, 115, 105, 111, 110]
abbrev w_default : Bs := [100, 101, 102, 97, 117, 108, 116]
/-- The words that are barred. -/
def barredL : List Bs := [[115, 101, 116], [114, 101, 115, 101, 116], [100, 105, 115, 99, 97, 114, 100], [98, 101, 103, 105, 110], [115, 116, 97, 114, 116], [99, 111, 109, 109, 105, 116], [101, 110, 100], [114, 111, 108, 108, 98, 97, 99, 107], [97, 98, 111, 114, 116], [115, 97, 118, 101, 112, 111, 105, 110, 116], [114, 101, 108, 101, 97, 115, 101], [115, 104, 111, 119], [108, 105, 115, 116, 101, 110], [117, 110, 108, 105, 115, 116, 101, 110], [112, 114, 101, 112, 97, 114, 101], [101, 120, 101, 99, 117, 116, 101], [100, 101, 97, 108, 108, 111, 99, 97, 116, 101], [100, 101, 99, 108, 97, 114, 101], [108, 111, 97, 100], [99, 111, 112, 121]]
def barredB (l : Bs) : Bool := barredL.any (fun x => x == l)

/-- What is asked for. -/
structure Cmd where
  kind : UInt8
  name : Bs
  value : Bs
def noCmd : Cmd := ⟨0, [], []⟩
def Cmd.val (c : Cmd) : Value := .agg #[.int .u8 (c.kind.toNat : Nat), .string ⟨c.name.toArray⟩, .string ⟨c.value.toArray⟩]

def beginsW (l : List Tok) (word : Bs) : Bool := match l with
  | t :: _ => t.kind == 119 && t.text == word
  | [] => false
def aloneW (l : List Tok) (word : Bs) : Bool := l.length == 1 && beginsW l word
def workW (l : List Tok) : List Tok := if beginsW l w_work || beginsW l w_transaction then l.drop 1 else l
def saveW (l : List Tok) : List Tok := if decide (1 < l.length) && beginsW l w_savepoint then l.drop 1 else l
def namedC (k : UInt8) (l : List Tok) : Cmd × Bool := (⟨k, (takeB l).1, []⟩, decide (0 < (takeB l).2) && (takeB l).2 == l.length)
def pointC (k : UInt8) (l : List Tok) : Cmd × Bool := match l with
  | [t] => if nm t then (⟨k, t.text, []⟩, true) else (noCmd, false)
  | _ => (noCmd, false)
def rollC (l : List Tok) : Cmd × Bool := if beginsW l w_to then pointC 116 (saveW (l.drop 1)) else (⟨107, [], []⟩, l.length == 0)
def assignsB (t : Tok) : Bool := (t.kind == 119 && t.text == w_to) || (t.kind == 111 && t.text == [61])
def valueB (l : List Tok) : Bs × Bool := match l with
  | [t] => (t.text, (t.kind == 115 || t.kind == 119) || t.kind == 110)
  | [t, u] => (t.text ++ u.text, (t.kind == 111 && (t.text == [45] || t.text == [43])) && u.kind == 110)
  | _ => ([], false)
/-- The kind of a setting, and what is behind the words that say so. -/
def setRow (l : List Tok) : UInt8 × List Tok :=
  if beginsW l w_local then (108, l.drop 1)
  else if ((beginsW l w_session && decide (1 < l.length)) && (l[1]?.map nm).getD false) && !beginsW (l.drop 1) w_to then (115, l.drop 1)
  else (115, l)
def setC (l : List Tok) : Cmd × Bool :=
  if (takeB (setRow l).2).2 = 0 ∨ (takeB (setRow l).2).2 = (setRow l).2.length ∨ ((setRow l).2[(takeB (setRow l).2).2]?.map assignsB).getD false = false then (noCmd, false)
  else if aloneW ((setRow l).2.drop ((takeB (setRow l).2).2 + 1)) w_default then (⟨114, (takeB (setRow l).2).1, []⟩, (setRow l).1 == 115)
  else (⟨(setRow l).1, (takeB (setRow l).2).1, (valueB ((setRow l).2.drop ((takeB (setRow l).2).2 + 1))).1⟩, (valueB ((setRow l).2.drop ((takeB (setRow l).2).2 + 1))).2)
def commandC (word : Bs) (l : List Tok) : Cmd × Bool :=
  if word = w_set then setC l
  else if word = w_reset then (if aloneW l w_all then (⟨97, [], []⟩, true) else namedC 114 l)
  else if word = w_discard then (⟨120, [], []⟩, aloneW l w_all)
  else if word = w_start then (if aloneW l w_transaction then (⟨98, [], []⟩, (workW l).length == 0) else (noCmd, false))
  else if word = w_begin then (⟨98, [], []⟩, (workW l).length == 0)
  else if word = w_end then (⟨99, [], []⟩, (workW l).length == 0)
  else if word = w_commit then (⟨99, [], []⟩, (workW l).length == 0)
  else if word = w_abort then rollC (workW l)
  else if word = w_rollback then rollC (workW l)
  else if word = w_savepoint then pointC 112 l
  else if word = w_release then pointC 101 (saveW l)
  else if word = w_show then namedC 119 l
  else (noCmd, false)
/-- What a statement's tokens ask for. -/
def ofC (l : List Tok) : Cmd := match l with
  | [] => ⟨48, [], []⟩
  | t :: r => if t.kind == 119 then (if (commandC t.text r).2 then (commandC t.text r).1 else if barredB t.text then ⟨117, t.text, []⟩ else ⟨111, t.text, []⟩) else ⟨111, t.text, []⟩
end Go.Proofs.YtpijolcklmdjbaaDoor
