package checks

import (
	"errors"
	"go/ast"
	"go/constant"
	"go/parser"
	"go/token"
	"go/types"
	"strconv"
	"strings"
	"testing"

	"serif/api"
)

// The limits and the errors as the document's section Words has them.
const (
	limits = "MaxFix 2147483647, MaxFont 1048576, MaxSfnt 64, MaxGlyphs 4096, MaxSize 65536, MaxGroups 4096, MaxCode 1114111, MaxPoints 4096, MaxContours 256, MaxNest 8, MaxParts 256, MaxStack 48, MaxCalls 10, MaxFuel 20000, MaxStems 96, MaxHintStack 256, MaxHintFuel 10000, MaxHintCalls 16, MaxHintLoop 1000, MaxStore 64, MaxFunctions 64, MaxTwilight 16, MaxCvt 1024, MaxHintCode 4096, Fffd 65533, MaxChars 16384, MaxLevel 125, MaxPairs 63, MaxList 256, MaxScripts 64, MaxSubs 1024, MaxSlots 16384, MaxShape 50000, MaxDeep 8, MaxItems 4096, Never 10000, MaxTolerance 10000, MaxEdges 16384, MaxSpot 16777216, MaxMask 512, MaxWorkers 64, MaxSide 1024, MaxTextBytes 65536, MaxFeatures 32, MaxFonts 64, MaxPixels 16777216"
	faults = "OK 0, ErrFixed 14, ErrPeek 21, ErrSfnt 31, ErrScaler 32, ErrTables 33, ErrFace 35, ErrMetric 41, ErrVersion 42, ErrGlyphs 43, ErrScale 44, ErrGlyph 45, ErrCmap 51, ErrCmapKind 52, ErrCmapMany 53, ErrPath 61, ErrPathMany 63, ErrPathFix 64, ErrGlyf 71, ErrGlyfKind 72, ErrGlyfMany 73, ErrGlyfFix 74, ErrGlyfNone 75, ErrType2 81, ErrType2Kind 82, ErrType2Many 83, ErrType2Fix 84, ErrType2None 85, ErrZone 91, ErrZoneFix 94, ErrHint 101, ErrHintKind 102, ErrHintMany 103, ErrHintFix 104, ErrHintFont 105, ErrBidiMany 133, ErrBase 135, ErrOtl 151, ErrOtlKind 152, ErrOtlMany 153, ErrGsub 161, ErrGsubKind 162, ErrGsubMany 163, ErrGpos 171, ErrGposKind 172, ErrGposMany 173, ErrGposFix 174, ErrItems 193, ErrItem 195, ErrLine 205, ErrRasterMany 213, ErrRasterFix 214, ErrPage 225, ErrCapacity 235, ErrLoad 241, ErrTextMany 243, ErrLayFix 244, ErrParams 245, ErrCommand 261, ErrFonts 263, ErrFont 265"
)

// constants: the names that package api gives to numbers.
func constants(t *testing.T) map[string]*types.Const {
	fset := token.NewFileSet()
	file, err := parser.ParseFile(fset, "../api/api.go", nil, 0)
	if err != nil {
		t.Fatal(err)
	}
	// What api takes from the library is no matter of its constants.
	conf := types.Config{Importer: none{}, Error: func(error) {}}
	pack, _ := conf.Check("serif/api", fset, []*ast.File{file}, nil)
	out := map[string]*types.Const{}
	for _, name := range pack.Scope().Names() {
		if c, ok := pack.Scope().Lookup(name).(*types.Const); ok {
			out[name] = c
		}
	}
	return out
}

type none struct{}

func (none) Import(string) (*types.Package, error) { return nil, errors.New("none") }

func hold(t *testing.T, has map[string]*types.Const, list string, kind string) {
	for _, pair := range strings.Split(list, ", ") {
		name, number, _ := strings.Cut(pair, " ")
		c := has[name]
		if c == nil {
			t.Errorf("%s is missing", name)
			continue
		}
		if got := constant.ToInt(c.Val()).ExactString(); got != number {
			t.Errorf("%s is %s", name, got)
		}
		if c.Type().String() != kind {
			t.Errorf("%s is of the type %s", name, c.Type())
		}
	}
}

func TestLimitsAndErrors(t *testing.T) {
	has := constants(t)
	hold(t, has, limits, "untyped int")
	hold(t, has, faults, "serif/api.Errno")
	for name := range has {
		if strings.HasPrefix(name, "Max") && !strings.Contains(limits, name+" ") || strings.HasPrefix(name, "Err") && !strings.Contains(faults, name+" ") {
			t.Errorf("%s is no word of the document", name)
		}
	}
}

func TestErrorsAreErrorValues(t *testing.T) {
	for _, e := range []api.Errno{api.OK, api.ErrFixed, api.ErrFont} {
		var err error = e
		if err.Error() != "error "+strconv.Itoa(int(e)) {
			t.Error(err)
		}
	}
	if !errors.Is(api.ErrFixed, api.Errno(14)) || api.ErrFixed%10 != api.Overflow {
		t.Error("ErrFixed")
	}
}
