/- What the statements ask of pick.Piece. -/
import Derived.Test.YtfennjefkfblgaaPcOut
namespace Go.Proofs.Ytfennjefkfblgaa
open Go.RowKit
set_option linter.unusedVariables false

/-- The contract of pick.Piece. -/
def PickPieceOk : Prop := ∀ (A0 : Option Addr) (n0 c0 : Nat) (base : Txs) (A : Option Addr) (n c : Nat) (rows : List Slc) (ps : List Txs) (fav : Int) (un : Bool) (w : World), n ≤ c → c ≤ maxLen → n ≤ 100 → inR64 fav → smallT base ps → TxR w w.heap.size (A0, n0, c0) base → RowsT w w.heap.size A n rows ps →
    Calls Try.prog 11 #[.slice A0 n0 c0, .slice A n c, .agg #[.int .i64 fav, .bool un]] w fun e w' => PieceOut w w' e (pieceD base ps fav un)
end Go.Proofs.Ytfennjefkfblgaa
