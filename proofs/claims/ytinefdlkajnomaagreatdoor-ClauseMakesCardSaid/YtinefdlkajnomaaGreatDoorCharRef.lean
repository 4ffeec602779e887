import Derived.Test.YtinefdlkajnomaaGreatDoorCharA
import Derived.Test.YtinefdlkajnomaaGreatDoorShelf
import Derived.Shelf.Unicode.ValidAny
import Derived.Shelf.Unicode.DecodeAny
import Derived.Laws.IdiomStrings
import Derived.Deep.AppendLies
namespace Go.Proofs.YtinefdlkajnomaaGreatDoor
open Go.RowKit
theorem cell_in {w : World} {b o : Nat} {v : Value} (h : w.cell? ⟨b, o, none⟩ = some v) : b < w.heap.size := by
 rcases Nat.lt_or_ge b w.heap.size with hlt | hge
 · exact hlt
 · unfold World.cell? at h;rw [Array.getElem?_eq_none hge] at h;cases h
def Tabs (w : World) : Prop := Lib.Utf8Tabs 0 1 w /\ True
theorem Tabs.on {w w' : World} (h : Tabs w) (hb : Below w.heap.size w w') : Tabs w' := by
 obtain ⟨h, _⟩ := h;refine ⟨⟨fun c hc => ?_, fun i hi => ⟨?_, ?_⟩⟩, trivial⟩
 · rw [<- h.1 c hc]; exact hb.cell (p := ⟨_, _, none⟩) (cell_in (h.1 c hc))
 · rw [<- (h.2 i hi).1]; exact hb.cell (p := ⟨_, _, none⟩) (cell_in (h.2 i hi).1)
 · rw [<- (h.2 i hi).2]; exact hb.cell (p := ⟨_, _, none⟩) (cell_in (h.2 i hi).2)
theorem utf8_Valid (s : ByteArray) (w : World) (hs : s.size <= 9223372036854775807) (hT : Tabs w) :
 Calls Tryz.prog 88 #[.string s] w fun e w' => e = .returned (.bool (Lib.validD s.data.toList)) /\ Below w.heap.size w w' := Any.utf8_ValidString Tryz.lays196 s w hs hT.1
set_option maxHeartbeats 1000000 in
theorem ref_Check (s : ByteArray) (w : World) (hs : s.size <= maxLen) (hT : Tabs w) :
 Calls Tryz.prog 77 #[.string s] w fun e w' => e = .returned (.bool (checkL s.data.toList)) /\ Below w.heap.size w w' := by
 have hs1 : s.size <= 9223372036854775807 := by unfold maxLen at hs; omega
 clear hs;have hl : s.data.toList.length = s.size := by simp
 have cV := Lib.hid (utf8_Valid s w hs1 hT);unfold checkL;rw [hl];clear hl hT;by_cases h : s.size <= 255
 · rw [decide_eq_true h, Bool.true_and];go_enter Tryz.func77, Tryz.ntmps77;go_wp2_with fail;refine cV.out.mono ?_; rintro e w1 ⟨rfl, hb⟩;go_wp2_with fail;go_ret;exact ⟨rfl, hb⟩
 · rw [decide_eq_false h, Bool.false_and];have h' : 255 < s.size := by omega
   clear h;go_enter Tryz.func77, Tryz.ntmps77;go_wp2_with fail;go_ret;exact ⟨rfl, Below.refl _ _⟩
theorem ownsRow_below {w w' : World} {B : Nat} {e : TypeId} {size : Nat} {v : Value} {n : Nat} {xs : List Value} (h : w.ownsRow B e size v n xs) (hb : Below w.heap.size w w') : w'.ownsRow B e size v n xs := by
 obtain ⟨hl, h0 | ⟨g, cap, cur, hv, hbg, hh, r⟩⟩ := h
 · exact ⟨hl, .inl h0⟩
 · have hg : g < w.heap.size := (Array.getElem?_eq_some_iff.1 hh).1;exact ⟨hl, .inr ⟨g, cap, cur, hv, hbg, (hb.block g hg).trans hh, r⟩⟩
theorem decodeGo_eq (s : ByteArray) (h : s.size ≠ 0) : Lib.decodeGo s = Lib.decodeL s.data.toList := by
 unfold Lib.decodeGo Lib.decodeL;rw [if_neg h]
theorem extract_drop (s : ByteArray) (k : Nat) : (s.extract k s.size).data.toList = s.data.toList.drop k := by
 rw [ByteArray.data_extract, Array.toList_extract];simp
 exact List.take_of_length_le (by simp)
def OwnRunes (B : Nat) (w : World) (v : Value) (rs : List Int) : Prop := w.ownsRow B 21 1 v rs.length (rs.map (Value.int .i32))
def strSize : Value -> Nat
 | .string t => t.size
 | _ => 0
def nameAll (rs : List Int) : Bool := decide (cls (rs.headD 0) = 1) && rs.all nameR
end Go.Proofs.YtinefdlkajnomaaGreatDoor
namespace Go.Proofs.YtinefdlkajnomaaGreatDoor
open Go.RowKit
theorem size_list (a : ByteArray) : a.data.toList.length = a.size := by simp
end Go.Proofs.YtinefdlkajnomaaGreatDoor
