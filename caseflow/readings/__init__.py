"""What all complete cases of a sound workflow have in common, whatever is handled first."""
