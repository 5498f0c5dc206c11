"""unmixed: a row that many hands write apart, in the one order that never mixes what was typed forward."""
