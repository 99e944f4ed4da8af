/- Short words. -/
import Derived.Below
namespace Go.RowKit
theorem Hid.o {p : Prop} (h : Hid p) : p := h
end Go.RowKit
namespace Go.Proofs.YtmggaclaoefdaabGreat
theorem hid {p : Prop} (h : p) : RowKit.Hid p := h
abbrev iV (n : Int) : Value := .int .i64 n
end Go.Proofs.YtmggaclaoefdaabGreat
