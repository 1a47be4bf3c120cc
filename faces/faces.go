// Package faces holds no code of the program: its tests hold the calls of all
// the layers against what the chapters list.
package faces
