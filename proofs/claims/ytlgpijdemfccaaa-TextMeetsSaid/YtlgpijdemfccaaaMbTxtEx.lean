/- Layer 10: the chapter's example, in plain mathematics. -/
import Derived.Test.YtlgpijdemfccaaaMbTxtTypeM
import Derived.Test.YtlgpijdemfccaaaMbTxtShow
namespace Go.Proofs.Ytlgpijdemfccaaa
set_option maxRecDepth 100000

def exA0 : P11 := byteP 97 ⟨1, 1⟩ 1 0 zN
def exA1 : P11 := byteP 98 ⟨1, 1⟩ 1 1 ⟨⟨1, 1⟩, 0⟩
def exX : P11 := byteP 120 ⟨2, 1⟩ 2 0 ⟨⟨1, 1⟩, 0⟩
def exY : P11 := byteP 121 ⟨3, 1⟩ 3 0 ⟨⟨1, 1⟩, 0⟩
def exX' : P11 := { exX with g := true }
abbrev exS1 : ByteArray := ⟨#[97, 98]⟩
abbrev exS2 : ByteArray := ⟨#[120]⟩
abbrev exS3 : ByteArray := ⟨#[121]⟩
theorem ex_t1 : mayT 4 zeroT [] 2 ⟨1, 1, 1⟩ ⟨⟨0, 0⟩, 0⟩ = 0 := by decide
theorem ex_l1 : ordT (addL [] (sbytes exS1) ⟨1, 1, 1⟩ ⟨⟨0, 0⟩, 0⟩) = [exA0, exA1] := by decide
theorem ex_t2 : mayT 4 zeroT [exA0, exA1] 1 ⟨2, 2, 1⟩ ⟨⟨1, 1⟩, 0⟩ = 0 := by decide
theorem ex_l2 : ordT (addL [exA0, exA1] (sbytes exS2) ⟨2, 2, 1⟩ ⟨⟨1, 1⟩, 0⟩) = [exA0, exX, exA1] := by decide
theorem ex_t3 : mayT 4 zeroT [exA0, exX, exA1] 1 ⟨3, 3, 1⟩ ⟨⟨1, 1⟩, 0⟩ = 0 := by decide
theorem ex_l3 : ordT (addL [exA0, exX, exA1] (sbytes exS3) ⟨3, 3, 1⟩ ⟨⟨1, 1⟩, 0⟩) = [exA0, exY, exX, exA1] := by decide
theorem ex_s2 : showT 4 zeroT [exA0, exX, exA1] = ⟨2, 0, ⟨#[97, 120, 98]⟩⟩ := by decide
theorem ex_s3 : showT 4 zeroT [exA0, exY, exX, exA1] = ⟨2, 0, ⟨#[97, 121, 120, 98]⟩⟩ := by decide
theorem ex_s4 : showT 4 zeroT [exA0, exY, exX', exA1] = ⟨2, 0, ⟨#[97, 121, 98]⟩⟩ := by decide
theorem ex_r4 : rightT10 4 zeroT [exA0, exY, exX', exA1] = 0 := by decide
theorem ex_s0 : showT 4 zeroT [] = ⟨2, 0, ⟨#[]⟩⟩ := by decide
end Go.Proofs.Ytlgpijdemfccaaa

